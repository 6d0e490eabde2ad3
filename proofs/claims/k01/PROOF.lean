import PyProof.Rows.All
import Wide.All
import OpenK.AllK
import Wide.FinOn
import HandS.ForMost
import HandS.Exc
import HandS.TryOnly
import HandS.ExcOwn
import HandS.WordsExc
import HandS.Conv
import HandS.Flow
import HandS.IsInst
import HandS.Style
import HandS.TupAny
import HandS.TupMul
import HandS.Wide
import HandS.Defaults
import HandS.RaiseMore
import HandS.Deep
import HandS.Set
import HandS.SetKeys
import HandS.Evl
import HandS.Strs
import PyProof.Rows.SortShellAny
import HandS.Zip
import PyProof.NeKinds
import HandS.Replace
import HandS.ReplaceLit
import KE.KRevSl
import HandS.Words
import HandS.ExcInit
import HandS.ExcSuper
import HandS.ExcField
import HandS.ExcIs
import HandS.HeadHook2
import HandS.Head2
import HandS.HeadEnd
import PySem.Challenge.RW_allshelves_k01_protocols_of_any_values
set_option Elab.async false
set_option linter.all false
set_option maxRecDepth 100000
namespace Al
open PySem PySem.Spec PyProof.Rows L2
/-! ### a value as data, apart from what may change (the addresses of D) -/
abbrev Ban := Addr → Prop
def keyD : Key → PyData
  | .inl i => .int i
  | .inr x => .str x
mutual
def Dq (D : Ban) (H : Hp) : PyData → V → Prop
  | .none, v => v = .non
  | .bool b, v => v = .bl b
  | .int i, v => v = .int i
  | .str x, v => v = .str x
  | .list ds, v => ∃ a xs, v = .ref a ∧ ¬ D a ∧ H a = some (.lst xs) ∧ DqL D H ds xs
  | .tuple ds, v => ∃ a xs, v = .ref a ∧ ¬ D a ∧ H a = some (.tup xs) ∧ DqL D H ds xs
  | .dict kvs, v => ∃ a ys, v = .ref a ∧ ¬ D a ∧ H a = some (.dK ys) ∧ DqK D H kvs ys
def DqL (D : Ban) (H : Hp) : List PyData → List V → Prop
  | [], xs => xs = []
  | d :: ds, xs => ∃ x r, xs = x :: r ∧ Dq D H d x ∧ DqL D H ds r
def DqK (D : Ban) (H : Hp) : List (PyData × PyData) → List (Key × V) → Prop
  | [], ys => ys = []
  | (k, d) :: kvs, ys => ∃ j x r, ys = (j, x) :: r ∧ k = keyD j ∧ Dq D H d x ∧ DqK D H kvs r
end
/-- all outside D is as it was -/
def Gr (D : Ban) (H H' : Hp) : Prop := ∀ a o, ¬ D a → H a = some o → H' a = some o
theorem Gr.refl (D : Ban) (H : Hp) : Gr D H H := fun _ _ _ h => h
theorem Gr.trans {D : Ban} {H H1 H2 : Hp} (a : Gr D H H1) (b : Gr D H1 H2) : Gr D H H2 := fun x o n h => b x o n (a x o n h)
theorem Gr.of {D : Ban} {H H' : Hp} (s : Same H H') : Gr D H H' := fun a o _ h => s a o h
theorem Gr.sub {D D' : Ban} {H H' : Hp} (h : ∀ a, D' a → D a) (g : Gr D' H H') : Gr D H H' := fun a o n e => g a o (fun z => n (h a z)) e
theorem same_new {H : Hp} {p : Addr} (h : H p = none) (o : HO) : Same H (upd H p o) := fun b u q => by rw [upd_ne (ne_of_none q h)]; exact q
mutual
theorem Dq.gr {D : Ban} {H H' : Hp} (g : Gr D H H') : ∀ (d : PyData) (v : V), Dq D H d v → Dq D H' d v
  | .none, _, h => h
  | .bool _, _, h => h
  | .int _, _, h => h
  | .str _, _, h => h
  | .list ds, _, h => by
    unfold Dq at h ⊢
    obtain ⟨a, xs, e, n, ha, hl⟩ := h
    exact ⟨a, xs, e, n, g a _ n ha, DqL.gr g ds xs hl⟩
  | .tuple ds, _, h => by
    unfold Dq at h ⊢
    obtain ⟨a, xs, e, n, ha, hl⟩ := h
    exact ⟨a, xs, e, n, g a _ n ha, DqL.gr g ds xs hl⟩
  | .dict kvs, _, h => by
    unfold Dq at h ⊢
    obtain ⟨a, xs, e, n, ha, hl⟩ := h
    exact ⟨a, xs, e, n, g a _ n ha, DqK.gr g kvs xs hl⟩
theorem DqL.gr {D : Ban} {H H' : Hp} (g : Gr D H H') : ∀ (ds : List PyData) (xs : List V), DqL D H ds xs → DqL D H' ds xs
  | [], _, h => h
  | d :: ds, _, h => by
    unfold DqL at h ⊢
    obtain ⟨x, r, e, h1, h2⟩ := h
    exact ⟨x, r, e, Dq.gr g d x h1, DqL.gr g ds r h2⟩
theorem DqK.gr {D : Ban} {H H' : Hp} (g : Gr D H H') : ∀ (ds : List (PyData × PyData)) (xs : List (Key × V)), DqK D H ds xs → DqK D H' ds xs
  | [], _, h => h
  | (k, d) :: ds, _, h => by
    unfold DqK at h ⊢
    obtain ⟨j, x, r, e, ek, h1, h2⟩ := h
    exact ⟨j, x, r, e, ek, Dq.gr g d x h1, DqK.gr g ds r h2⟩
end
theorem Dq.same {D : Ban} {H H' : Hp} (s : Same H H') {d : PyData} {v : V} (h : Dq D H d v) : Dq D H' d v := Dq.gr (Gr.of s) d v h
theorem DqL.same {D : Ban} {H H' : Hp} (s : Same H H') {d : List PyData} {v : List V} (h : DqL D H d v) : DqL D H' d v := DqL.gr (Gr.of s) d v h
theorem DqL.length {D : Ban} {H : Hp} : ∀ {ds : List PyData} {xs : List V}, DqL D H ds xs → xs.length = ds.length
  | [], _, h => by unfold DqL at h; rw [h]; rfl
  | d :: ds, _, h => by
    unfold DqL at h
    obtain ⟨x, r, e, _, h2⟩ := h
    rw [e]
    show r.length + 1 = ds.length + 1
    rw [DqL.length h2]
theorem DqL.get {D : Ban} {H : Hp} : ∀ {ds : List PyData} {xs : List V} {i : Nat} {d : PyData}, DqL D H ds xs → ds[i]? = some d → ∃ x, xs[i]? = some x ∧ Dq D H d x
  | [], _, _, _, _, e => by simp at e
  | d :: ds, _, 0, d', h, e => by
    unfold DqL at h
    obtain ⟨x, r, rfl, h1, h2⟩ := h
    have e' : d = d' := Option.some.inj e
    rw [← e']
    exact ⟨x, rfl, h1⟩
  | d :: ds, _, i + 1, d', h, e => by
    unfold DqL at h
    obtain ⟨x, r, rfl, h1, h2⟩ := h
    obtain ⟨y, e1, e2⟩ := DqL.get (i := i) h2 e
    exact ⟨y, e1, e2⟩
theorem DqL.getV {D : Ban} {H : Hp} {ds : List PyData} {xs : List V} {i : Nat} {x : V} (h : DqL D H ds xs) (e : xs[i]? = some x) : ∃ d, ds[i]? = some d ∧ Dq D H d x := by
  have hl := h.length
  have hi : i < ds.length := by
    rw [← hl]
    cases Nat.lt_or_ge i xs.length with
    | inl z => exact z
    | inr z => rw [List.getElem?_eq_none_iff.mpr z] at e; cases e
  obtain ⟨y, e1, e2⟩ := h.get (List.getElem?_eq_getElem hi)
  rw [e] at e1
  have e3 : x = y := Option.some.inj e1
  rw [e3]
  exact ⟨_, List.getElem?_eq_getElem hi, e2⟩
theorem DqL.append {D : Ban} {H : Hp} : ∀ {ds es : List PyData} {xs ys : List V}, DqL D H ds xs → DqL D H es ys → DqL D H (ds ++ es) (xs ++ ys)
  | [], _, _, _, h, k => by unfold DqL at h; rw [h]; exact k
  | d :: ds, _, _, _, h, k => by
    unfold DqL at h
    obtain ⟨x, r, rfl, h1, h2⟩ := h
    show DqL D H (d :: (ds ++ _)) (x :: (r ++ _))
    unfold DqL
    exact ⟨x, _, rfl, h1, DqL.append h2 k⟩
theorem DqL.nil {D : Ban} {H : Hp} : DqL D H [] [] := by unfold DqL; rfl
theorem DqL.cons {D : Ban} {H : Hp} {d : PyData} {ds : List PyData} {x : V} {xs : List V} (h : Dq D H d x) (k : DqL D H ds xs) : DqL D H (d :: ds) (x :: xs) := by unfold DqL; exact ⟨x, xs, rfl, h, k⟩
theorem DqL.take {D : Ban} {H : Hp} : ∀ {ds : List PyData} {xs : List V} (n : Nat), DqL D H ds xs → DqL D H (ds.take n) (xs.take n)
  | _, _, 0, _ => by rw [List.take_zero, List.take_zero]; exact DqL.nil
  | [], _, n + 1, h => by unfold DqL at h; rw [h]; exact DqL.nil
  | d :: ds, _, n + 1, h => by
    unfold DqL at h
    obtain ⟨x, r, rfl, h1, h2⟩ := h
    exact DqL.cons h1 (DqL.take n h2)
theorem DqL.drop {D : Ban} {H : Hp} : ∀ {ds : List PyData} {xs : List V} (n : Nat), DqL D H ds xs → DqL D H (ds.drop n) (xs.drop n)
  | _, _, 0, h => h
  | [], _, n + 1, h => by unfold DqL at h; rw [h]; exact DqL.nil
  | d :: ds, _, n + 1, h => by
    unfold DqL at h
    obtain ⟨x, r, rfl, h1, h2⟩ := h
    exact DqL.drop n h2
theorem DqL.reverse {D : Ban} {H : Hp} : ∀ {ds : List PyData} {xs : List V}, DqL D H ds xs → DqL D H ds.reverse xs.reverse
  | [], _, h => by unfold DqL at h; rw [h]; exact DqL.nil
  | d :: ds, _, h => by
    unfold DqL at h
    obtain ⟨x, r, rfl, h1, h2⟩ := h
    rw [List.reverse_cons, List.reverse_cons]
    exact (DqL.reverse h2).append (DqL.cons h1 DqL.nil)
theorem DqL.strs {D : Ban} {H : Hp} : ∀ (ys : List Str), DqL D H (ys.map PyData.str) (ys.map V.str)
  | [] => DqL.nil
  | y :: ys => DqL.cons (by unfold Dq; rfl) (DqL.strs ys)
section
variable {X : Cx} {pins : List (Addr × Obj)} {σ : L2.St} {H : Hp} {s : Shared} {D : Ban}
theorem paired_map2 {α β : Type} {F : α → β → Prop} : ∀ {l : List α} {m : List β}, Paired F l m → l.length = m.length
  | _, _, .nil => rfl
  | _, _, .cons _ t => by show _ + 1 = _ + 1; rw [paired_map2 t]
theorem key_reads {h : Heap} {j : Key} {u : Value} (e : keyIs j u = true) : Reads h u (keyD j) [] := by
  rcases keyIs_shape e with ⟨i, t, rfl, rfl⟩ | ⟨x, t, rfl, rfl⟩
  · exact Reads.int i t
  · exact Reads.str x t
mutual
theorem Dq.reads (I : Inv X pins σ H s) (hs : H sysModules = none) : ∀ (d : PyData) (v : V) (u : Value), Dq D H d v → RelV v u → ∃ as, Reads s.heap u d as ∧ sysModules ∉ as
  | .none, _, _, h, r => by unfold Dq at h; rw [h] at r; cases r; exact ⟨[], Reads.none, by simp⟩
  | .bool b, _, _, h, r => by unfold Dq at h; rw [h] at r; cases r; exact ⟨[], Reads.bool b, by simp⟩
  | .int i, _, _, h, r => by unfold Dq at h; rw [h] at r; obtain ⟨t, rfl⟩ := r; exact ⟨[], Reads.int i t, by simp⟩
  | .str x, _, _, h, r => by unfold Dq at h; rw [h] at r; obtain ⟨t, rfl⟩ := r; exact ⟨[], Reads.str x t, by simp⟩
  | .list ds, _, _, h, r => by
    unfold Dq at h
    obtain ⟨a, xs, rfl, n, ha, hl⟩ := h
    cases r
    obtain ⟨_, its, k, rv, ho⟩ := (show ObjOk X.prog X.w H s.heap a (.lst xs) from I.hok a _ ha)
    obtain ⟨as, q1, q2⟩ := Dq.readsL I hs ds xs its hl rv
    refine ⟨a :: as, Reads.list ho rfl rfl (by simpa using q1), fun z => ?_⟩
    rcases List.mem_cons.mp z with z | z
    · rw [z, ha] at hs; cases hs
    · exact q2 z
  | .tuple ds, _, _, h, r => by
    unfold Dq at h
    obtain ⟨a, xs, rfl, n, ha, hl⟩ := h
    cases r
    obtain ⟨_, its, rv, o, ho, hc, k, hd⟩ := (show ObjOk X.prog X.w H s.heap a (.tup xs) from I.hok a _ ha)
    obtain ⟨as, q1, q2⟩ := Dq.readsL I hs ds xs its hl rv
    exact ⟨as, Reads.tuple ho hc hd (by simpa using q1), q2⟩
  | .dict kvs, _, _, h, r => by
    unfold Dq at h
    obtain ⟨a, ys, rfl, n, ha, hl⟩ := h
    cases r
    obtain ⟨_, hm, vs, rv, o, es, ep, ho, hc, hd, _, hp, _⟩ := (show ObjOk X.prog X.w H s.heap a (.dK ys) from I.hok a _ ha)
    obtain ⟨bs, q1, q2, q3⟩ := Dq.readsK I hs kvs ys vs es.toList hl rv hp
    refine ⟨a :: [] ++ bs, Reads.dict ho hc.1 hd q1 q2, fun z => ?_⟩
    rcases List.mem_cons.mp z with z | z
    · rw [← z] at hm
      simp at hm
    · exact q3 z
theorem Dq.readsK (I : Inv X pins σ H s) (hs : H sysModules = none) : ∀ (kvs : List (PyData × PyData)) (ys : List (Key × V)) (vs : List (Key × Value)) (es : List DictEntry), DqK D H kvs ys → KV ys vs → PySem.Pairs (mixKind X.prog X.w) es vs →
    ∃ bs, ReadsAll s.heap (es.map (·.key)) (kvs.map (·.1)) [] ∧ ReadsAll s.heap (es.map (·.val)) (kvs.map (·.2)) bs ∧ sysModules ∉ bs
  | [], _, _, _, h, r, p => by
    unfold DqK at h
    subst h
    cases r
    cases p
    exact ⟨[], ReadsAll.nil, ReadsAll.nil, by simp⟩
  | (k, d) :: kvs, _, _, _, h, r, p => by
    unfold DqK at h
    obtain ⟨j, x, t, rfl, rfl, h1, h2⟩ := h
    cases r with
    | cons r1 r2 =>
      cases p with
      | cons p1 p2 p3 =>
        obtain ⟨r3, r4⟩ := r1
        obtain ⟨bs, q1, q2, q3⟩ := Dq.readsK I hs kvs _ _ _ h2 r2 p3
        obtain ⟨as, q4, q5⟩ := Dq.reads I hs d _ _ h1 r4
        rw [← p2] at q4
        refine ⟨as ++ bs, ?_, ReadsAll.cons q4 q2, fun z => (List.mem_append.mp z).elim q5 q3⟩
        have q6 := key_reads (h := s.heap) (j := j) (u := _) (by rw [show j = _ from r3]; exact p1)
        exact ReadsAll.cons (as := []) q6 q1
theorem Dq.readsL (I : Inv X pins σ H s) (hs : H sysModules = none) : ∀ (ds : List PyData) (xs : List V) (us : List Value), DqL D H ds xs → Vals xs us → ∃ as, ReadsAll s.heap us ds as ∧ sysModules ∉ as
  | [], _, _, h, r => by unfold DqL at h; rw [h] at r; cases r; exact ⟨[], ReadsAll.nil, by simp⟩
  | d :: ds, _, _, h, r => by
    unfold DqL at h
    obtain ⟨x, t, rfl, h1, h2⟩ := h
    cases r with
    | cons r1 r2 =>
      obtain ⟨as, q1, q2⟩ := Dq.reads I hs d _ _ h1 r1
      obtain ⟨bs, q3, q4⟩ := Dq.readsL I hs ds _ _ h2 r2
      exact ⟨as ++ bs, ReadsAll.cons q1 q3, fun z => (List.mem_append.mp z).elim q2 q4⟩
end
end
end Al
namespace Al
open PySem PySem.Spec PyProof.Rows L2
open PySem.SeqAt PySem.MeetsSeq
section
variable {A : Around} {s : Shared}
theorem dict_no_str (l : Addr) (es : Array DictEntry) (n : Nat) (dd : Option Addr) (sl : Array (Option Value)) (b : Str) (u : Tok) :
    Meets (Builtin.«dict.__eq__» ⟨[.ref l, .str b u], []⟩) (fun _ R s => s.heap.get? l = some { cls := .type "dict", dict := dd, data := .dict es n, slots := sl } ∧ R (.ok (.ret .notImplemented)) s) :=
  .of_wp fun prog w A R s h => by
    obtain ⟨hp, g, d, tk, os⟩ := s
    obtain ⟨hl, h⟩ := h
    have f1 := F.sub_str_dict
    wp_walk using AutoSeq1.wpAny_loadPart' hl, wpAny_load hl
    exact ⟨_, rfl, h⟩
theorem str_no_dict (b : Str) (u : Tok) (l : Addr) (es : Array DictEntry) (n : Nat) (dd : Option Addr) (sl : Array (Option Value)) :
    Meets (Builtin.«str.__eq__» ⟨[.str b u, .ref l], []⟩) (fun _ R s => s.heap.get? l = some { cls := .type "dict", dict := dd, data := .dict es n, slots := sl } ∧ R (.ok (.ret .notImplemented)) s) :=
  .of_wp fun prog w A R s h => by
    obtain ⟨hp, g, d, tk, os⟩ := s
    obtain ⟨hl, h⟩ := h
    wp_walk using AutoSeq1.wpAny_loadPart' hl, wpAny_load hl
    exact ⟨_, rfl, h⟩
theorem rc_dict_str {l : Addr} {o : Obj} {es : Array DictEntry} {n : Nat} (b : Str) (u : Tok) (ho : s.heap.get? l = some o) (hc : o.cls = .type "dict") (hd : o.data = .dict es n) (hu : A.units < cLine) : RcAt A s (.ref l) (.str b u) false := fun prog w E Q h => by
  obtain ⟨cls, dd, data, sl⟩ := o
  simp only at hc hd
  subst hc hd
  refine rc_eq_decline_or (k := false) ⟨_, ho, rfl⟩ (typeIs_str s b u) (by decide) F.sub_str_dict F.slot_dict_eq F.slot_str_eq_refl (fun _ hq => ?_) (fun _ hq => ?_) (fun _ hq => wpAny_of_eq (rfl : isSame (.ref l) (.str b u) = pure false) hq) (.inr hu) h
  · exact call_meets F.slot_dict_eq ⟨_, ho, rfl⟩ F.entry_dict_eq (F.args_dict_eq_2 _ _) (dict_no_str l es n dd sl b u) ⟨ho, hq⟩
  · exact call_meets F.slot_str_eq_refl (typeIs_str s b u) F.entry_str_eq (F.args_str_eq_2 _ _) (str_no_dict b u l es n dd sl) ⟨ho, hq⟩
theorem rc_str_dict {l : Addr} {o : Obj} {es : Array DictEntry} {n : Nat} (b : Str) (u : Tok) (ho : s.heap.get? l = some o) (hc : o.cls = .type "dict") (hd : o.data = .dict es n) (hu : A.units < cLine) : RcAt A s (.str b u) (.ref l) false := fun prog w E Q h => by
  obtain ⟨cls, dd, data, sl⟩ := o
  simp only at hc hd
  subst hc hd
  refine rc_eq_decline_or (k := false) (typeIs_str s b u) ⟨_, ho, rfl⟩ (by decide) F.sub_dict_str F.slot_str_eq F.slot_dict_eq_refl (fun _ hq => ?_) (fun _ hq => ?_) (fun _ hq => wpAny_of_eq (rfl : isSame (.str b u) (.ref l) = pure false) hq) (.inr hu) h
  · exact call_meets F.slot_str_eq (typeIs_str s b u) F.entry_str_eq (F.args_str_eq_2 _ _) (str_no_dict b u l es n dd sl) ⟨ho, hq⟩
  · exact call_meets F.slot_dict_eq_refl ⟨_, ho, rfl⟩ F.entry_dict_eq (F.args_dict_eq_2 _ _) (dict_no_str l es n dd sl b u) ⟨ho, hq⟩
theorem eqAt_of_rc {z : Str} {t : Tok} {l : Addr} {b : Bool} (h : RcAt A s (.str z t) (.ref l) b) : EqAt A s (.str z t) (.ref l) b := fun prog w E Q q => by
  unfold eqBool
  refine wpAny_holding ?_
  exact wpAny_ite_split (fun hab => absurd (eq_of_beq hab) nofun) (fun _ => wpAny_bind (h prog w E _ (wpAny_truthy_bool q)))
end
/-- whether data is this text -/
def isS (z : Str) : PyData → Bool
  | .str x => decide (x = z)
  | _ => false
theorem isS_iff {z : Str} {d : PyData} : isS z d = true ↔ d = .str z := by
  cases d with
  | str x => simp [isS]
  | _ => simp [isS]
section
variable {X : Cx} {pins : List (Addr × Obj)} {σ : L2.St} {H : Hp} {s : Shared} {D : Ban}
theorem rc_data_str (I : Inv X pins σ H s) {A : Around} (hu : A.units < cLine) {d : PyData} {v : V} {u : Value} (h : Dq D H d v) (r : RelV v u) (z : Str) (t : Tok) : RcAt A s u (.str z t) (isS z d) := by
  cases d with
  | none => unfold Dq at h; subst h; cases r; exact RcAt.none_str z t
  | bool b => unfold Dq at h; subst h; cases r; exact RcAt.bool_str b z t
  | int i => unfold Dq at h; subst h; obtain ⟨t', rfl⟩ := r; exact RcAt.int_str i t' z t
  | str x =>
    unfold Dq at h; subst h; obtain ⟨t', rfl⟩ := r
    have e : isS z (.str x) = (x == z) := by
      show decide (x = z) = _
      rw [Bool.beq_eq_decide_eq]
    rw [e]
    exact RcAt.str_str x t' z t
  | list ds =>
    unfold Dq at h
    obtain ⟨a, xs, rfl, _, ha, _⟩ := h
    cases r
    obtain ⟨_, its, k, rv, ho⟩ := (show ObjOk X.prog X.w H s.heap a (.lst xs) from I.hok a _ ha)
    exact RcAt.list_str z t ⟨_, ho, rfl, k, rfl⟩ hu
  | tuple ds =>
    unfold Dq at h
    obtain ⟨a, xs, rfl, _, ha, _⟩ := h
    cases r
    obtain ⟨_, its, rv, ho⟩ := (show ObjOk X.prog X.w H s.heap a (.tup xs) from I.hok a _ ha)
    exact RcAt.tuple_str z t ho hu
  | dict kvs =>
    unfold Dq at h
    obtain ⟨a, ys, rfl, _, ha, _⟩ := h
    cases r
    obtain ⟨_, _, vs, rv, o, es, ep, ho, hc, hd, _⟩ := (show ObjOk X.prog X.w H s.heap a (.dK ys) from I.hok a _ ha)
    exact rc_dict_str z t ho hc.1 hd hu
theorem eqAt_str_data (I : Inv X pins σ H s) {A : Around} (hu : A.units < cLine) {d : PyData} {v : V} {u : Value} (h : Dq D H d v) (r : RelV v u) (z : Str) (t : Tok) : EqAt A s (.str z t) u (isS z d) := by
  cases d with
  | none => unfold Dq at h; subst h; cases r; exact EqAt.str_none z t
  | bool b => unfold Dq at h; subst h; cases r; exact EqAt.str_bool z t b
  | int i => unfold Dq at h; subst h; obtain ⟨t', rfl⟩ := r; exact EqAt.str_int z t i t'
  | str x =>
    unfold Dq at h; subst h; obtain ⟨t', rfl⟩ := r
    have e : isS z (.str x) = (z == x) := by
      show decide (x = z) = _
      rw [Bool.beq_eq_decide_eq]
      exact decide_eq_decide.mpr ⟨fun e => e.symm, fun e => e.symm⟩
    rw [e]
    exact EqAt.str_str z t x t'
  | list ds =>
    unfold Dq at h
    obtain ⟨a, xs, rfl, _, ha, _⟩ := h
    cases r
    obtain ⟨_, its, k, rv, ho⟩ := (show ObjOk X.prog X.w H s.heap a (.lst xs) from I.hok a _ ha)
    exact EqAt.str_list z t ⟨_, ho, rfl, k, rfl⟩ hu
  | tuple ds =>
    unfold Dq at h
    obtain ⟨a, xs, rfl, _, ha, _⟩ := h
    cases r
    obtain ⟨_, its, rv, ho⟩ := (show ObjOk X.prog X.w H s.heap a (.tup xs) from I.hok a _ ha)
    exact EqAt.str_tuple z t ho hu
  | dict kvs =>
    unfold Dq at h
    obtain ⟨a, ys, rfl, _, ha, _⟩ := h
    cases r
    obtain ⟨_, _, vs, rv, o, es, ep, ho, hc, hd, _⟩ := (show ObjOk X.prog X.w H s.heap a (.dK ys) from I.hok a _ ha)
    exact eqAt_of_rc (rc_str_dict z t ho hc.1 hd hu)
end
/-- data == a text | data in, not in a tuple of texts -/
def rEqS : R2 := fun x y H Q => ∃ (D : Ban) (d : PyData) (z : Str), Dq D H d x ∧ y = .str z ∧ Q (.bl (isS z d)) H
def anyS (zs : List Str) (d : PyData) : Bool := zs.any fun z => isS z d
def rInS (K : PySem.W.Frag) (neg : Bool) : R2 := fun x y H Q => ∃ (D : Ban) (d : PyData) (p : Addr) (zs : List Str), Dq D H d x ∧ y = .ref p ∧ SqT K H p (zs.map V.str) ∧ Q (.bl (if neg then !anyS zs d else anyS zs d)) H
section
variable {X : Cx}
theorem op_eqS (hu : X.A.units + 1 < cLine) : OpR X (compareOp .Eq) rEqS := by
  intro pins s σ H x y v u Q I rx ry h
  obtain ⟨D, d, z, hd, rfl, q⟩ := h
  obtain ⟨t, rfl⟩ := ry
  exact rc_data_str I (by omega) hd rx z t X.prog X.w _ _ ⟨.bl _, H, I, rfl, q⟩
/-- the items' equalities, by what the values are -/
def eqOf (d : PyData) : Value → Bool
  | .str z _ => isS z d
  | _ => false
theorem any_eqOf (d : PyData) : ∀ {zs : List Str} {us : List Value}, Vals (zs.map V.str) us → us.any (eqOf d) = anyS zs d
  | [], _, h => by cases h; rfl
  | z :: zs, _, h => by
    cases h with
    | cons r t =>
      obtain ⟨k, rfl⟩ := r
      show (isS z d || _) = (isS z d || _)
      rw [any_eqOf d t]
      rfl
theorem mem_eqOf {pins : List (Addr × Obj)} {σ : L2.St} {H : Hp} {s : Shared} {D : Ban} (I : Inv X pins σ H s) {A : Around} (hu : A.units < cLine) {d : PyData} {v : V} {u : Value} (h : Dq D H d v) (r : RelV v u) :
    ∀ {zs : List Str} {us : List Value}, Vals (zs.map V.str) us → ∀ y ∈ us, EqAt A s y u (eqOf d y)
  | [], _, h', y, hy => by cases h'; cases hy
  | z :: zs, _, h', y, hy => by
    cases h' with
    | cons r' t =>
      rcases List.mem_cons.mp hy with e | e
      · obtain ⟨k, e2⟩ := r'
        rw [e, e2]
        exact eqAt_str_data I hu h r z k
      · exact mem_eqOf I hu h r t y e
theorem op_inS (hu : X.A.units + 1 < cLine) : OpR X (compareOp .In) (rInS X.K false) := by
  intro pins s σ H x y v u Q I rx ry h
  obtain ⟨D, d, p, zs, hd, rfl, hq, q⟩ := h
  cases ry
  obtain ⟨its, r, pl, hz⟩ := I.tuple hq
  refine SeqAt.in_tupleAt (eqOf d) pl (fun w hw => mem_eqOf I (A := X.A.in1) hu hd rx r w (by simpa using hw)) ⟨.bl _, H, I, rfl, ?_⟩
  rw [show its.toArray.any (eqOf d) = its.any (eqOf d) by simp, any_eqOf d r]
  exact q
theorem op_notInS (hu : X.A.units + 1 < cLine) : OpR X (compareOp .NotIn) (rInS X.K true) := by
  intro pins s σ H x y v u Q I rx ry h
  obtain ⟨D, d, p, zs, hd, rfl, hq, q⟩ := h
  cases ry
  obtain ⟨its, r, pl, hz⟩ := I.tuple hq
  refine SeqAt.notIn_tupleAt (eqOf d) pl (fun w hw => mem_eqOf I (A := X.A.in1) hu hd rx r w (by simpa using hw)) ⟨.bl _, H, I, rfl, ?_⟩
  rw [show its.toArray.any (eqOf d) = its.any (eqOf d) by simp, any_eqOf d r]
  exact q
end
end Al
namespace Al
open PySem PySem.Spec PyProof.Rows L2
open Evl (Ex Ev EvT EvA EvL EvU SpV RV RC RCL)
/-! ### defs of the text, and what they promise -/
structure Def (K : PySem.W.Frag) (mg : Str → Option Value) (x : Str) (st : Stmt) (ps : List Str) : Prop where
  ex : ∃ (f : Addr) (fd : FuncData), Fun K x x st f fd ∧ mg x = some (.ref f) ∧ Binds K fd ps []
structure Cal (P : Program) (w : World) (K : PySem.W.Frag) (mg : Str → Option Value) (base : Heap) (k : Nat) (x : Str) (sp : Sp) : Prop where
  ex : ∃ (f : Addr) (fd : FuncData) (ps : List Str), FnOk P w K mg base CX0 k f fd ps sp ∧ mg x = some (.ref f) ∧ PySem.W.keepIn K (.ref f) = true ∧ Binds K fd ps []
section
variable {P : Program} {w : World} {K : PySem.W.Frag} {mg : Str → Option Value} {base : Heap}
theorem Cal.of {x : Str} {st : Stmt} {N ps : List Str} {k : Nat} {sp : Sp} (F : Def K mg x st ps) (S : FnScope N ps (defScope st)) (len : ∀ vs H Q E, sp vs H Q E → vs.length = ps.length)
    (body : ∀ (f : Addr) (cdv : Value) (A : Around) (outer : List Env) (s : Shared) (H : Hp) (vs : List V) (Q : VK) (E : XK), Room k (A.deeper (envOfC x (defScope st) s.heap.objs.size f cdv)) → sp vs H Q E →
      ∃ t, PSs (cxOf CX0 P w K mg base N x (defScope st) f cdv A outer s H E).nox (defBody st) t ∧ t { nx := fun _ H' => Q .non H', rt := Q } (start N vs) H) : Cal P w K mg base (k + 1) x sp := by
  obtain ⟨f, fd, FF, m, b⟩ := F.ex
  exact ⟨f, fd, ps, FF.ok S len (fun cdv A outer s H vs Q E hr h => body f cdv A outer s H vs Q E hr h), m, FF.kp, b⟩
theorem Cal.mono {x : Str} {j k : Nat} {sp : Sp} (c : Cal P w K mg base j x sp) (h : j ≤ k) : Cal P w K mg base k x sp := by
  obtain ⟨f, fd, ps, F, r⟩ := c.ex
  exact ⟨f, fd, ps, F.mono h, r⟩
end
section
variable {X : Cx} {x : Str} {sp : Sp} {j k : Nat} {e : Expr} {es : List Expr} {t : TA} {p pos : Pos}
theorem pcall (c : Cal X.prog X.w X.K X.mg X.base k x sp) (hr : Room j X.A) (ha : PA X (e :: es) t) (hg : Gl X x := by rfl) (hk : k ≤ j := by decide)
    (hdb : (x == ("__debug__" : Str)) = false := by decide) (he : starEach (e :: es) X.env = (false, eval e X.env) :: starEach es X.env := by rfl) (hpl : (backTo pos (starEach es X.env)).any (·.1) = false := by rfl) :
    PE X (.Call (.Name x p) (e :: es) [] pos) (tCall sp [] E0 t) := by
  obtain ⟨f, fd, ps, F, hm, kp, b⟩ := c.ex
  exact pe_call F (hr.mono hk) hg hm kp b .nil pass0 ha hdb he hpl
end
/-! ### promises of defs that only look: a value that holds in every larger heap -/
def spV (R : List V → Hp → V → Prop) : Sp := fun vs H Q _ => ∃ z, R vs H z ∧ ∀ H', Ex H H' → Q z H'
theorem sv_of {R : List V → Hp → V → Prop} {vs : List V} {H : Hp} {z : V} (h : ∀ H1, Ex H H1 → R vs H1 z) : SpV (spV R) (vs ++ []) H z := fun H1 e Q q _ => by
  rw [List.append_nil]
  exact ⟨z, h H1 e, q⟩
theorem ev_def {R : List V → Hp → V → Prop} {vs : List V} {σ : L2.St} {H : Hp} {z : V} {ta : TA} {E : XK} (h : EvA ta σ H vs) (hR : ∀ H1, Ex H H1 → R vs H1 z) : Ev (tCall (spV R) [] E ta) σ H z := Evl.ev_call h (sv_of hR)
/-- f(thing): the bool of the data -/
def R1 (f : PyData → Bool) : List V → Hp → V → Prop := fun vs H z => ∃ (D : Ban) (d : PyData) (v : V), vs = [v] ∧ Dq D H d v ∧ z = .bl (f d)
/-- built-in names that the module leaves alone -/
structure Bl (mg : Str → Option Value) : Prop where
  isinstance : mg "isinstance" = none
  tuple : mg "tuple" = none
  int : mg "int" = none
  bool : mg "bool" = none
  str : mg "str" = none
  list : mg "list" = none
  len : mg "len" = none
  all : mg "all" = none
  sorted : mg "sorted" = none
  set : mg "set" = none
  zip : mg "zip" = none
  max : mg "max" = none
  range : mg "range" = none
  repr : mg "repr" = none
  dict : mg "dict" = none
theorem b_isinstance : bootBuiltins "isinstance" = some (.builtin "isinstance") := by decide +kernel
theorem b_tuple : bootBuiltins "tuple" = some (.type "tuple") := by decide +kernel
theorem b_int : bootBuiltins "int" = some (.type "int") := by decide +kernel
theorem b_bool : bootBuiltins "bool" = some (.type "bool") := by decide +kernel
theorem b_str : bootBuiltins "str" = some (.type "str") := by decide +kernel
theorem b_list : bootBuiltins "list" = some (.type "list") := by decide +kernel
theorem b_set : bootBuiltins "set" = some (.type "set") := by decide +kernel
theorem b_dict : bootBuiltins "dict" = some (.type "dict") := by decide +kernel
theorem b_len : bootBuiltins "len" = some (.builtin "len") := by decide +kernel
theorem b_all : bootBuiltins "all" = some (.builtin "all") := by decide +kernel
theorem b_sorted : bootBuiltins "sorted" = some (.builtin "sorted") := by decide +kernel
theorem b_max : bootBuiltins "max" = some (.builtin "max") := by decide +kernel
theorem b_repr : bootBuiltins "repr" = some (.builtin "repr") := by decide +kernel
/-! ### isinstance of data -/
def tyN : PyData → String
  | .none => "NoneType"
  | .bool _ => "bool"
  | .int _ => "int"
  | .str _ => "str"
  | .list _ => "list"
  | .tuple _ => "tuple"
  | .dict _ => "dict"
def isTup : PyData → Bool
  | .tuple _ => true
  | _ => false
def isIntB : PyData → Bool
  | .int _ => true
  | .bool _ => true
  | _ => false
def isBl : PyData → Bool
  | .bool _ => true
  | _ => false
def isStr : PyData → Bool
  | .str _ => true
  | _ => false
theorem kb_tup (d : PyData) : kitB (tyN d) "tuple" = some (isTup d) := by cases d <;> (first | decide +kernel | (dsimp only [tyN, isTup, isIntB, isBl, isStr]; decide +kernel))
theorem kb_int (d : PyData) : kitB (tyN d) "int" = some (isIntB d) := by cases d <;> (first | decide +kernel | (dsimp only [tyN, isTup, isIntB, isBl, isStr]; decide +kernel))
theorem kb_bool (d : PyData) : kitB (tyN d) "bool" = some (isBl d) := by cases d <;> (first | decide +kernel | (dsimp only [tyN, isTup, isIntB, isBl, isStr]; decide +kernel))
theorem kb_str (d : PyData) : kitB (tyN d) "str" = some (isStr d) := by cases d <;> (first | decide +kernel | (dsimp only [tyN, isTup, isIntB, isBl, isStr]; decide +kernel))
theorem tyx {K : PySem.W.Frag} {D : Ban} {H : Hp} {d : PyData} {v : V} (h : Dq D H d v) : TyX K H v (.type (tyN d)) := by
  cases d with
  | none => unfold Dq at h; subst h; exact .base .non
  | bool b => unfold Dq at h; subst h; exact .base (.bl b)
  | int i => unfold Dq at h; subst h; exact .base (.int i)
  | str x => unfold Dq at h; subst h; exact .base (.str x)
  | list ds => unfold Dq at h; obtain ⟨a, xs, rfl, _, ha, _⟩ := h; exact .base (.lst ha)
  | tuple ds => unfold Dq at h; obtain ⟨a, xs, rfl, _, ha, _⟩ := h; exact .base (.tup ha)
  | dict kvs => unfold Dq at h; obtain ⟨a, xs, rfl, _, ha, _⟩ := h; exact .base (.dK ha)
theorem rc_isi {K : PySem.W.Frag} {D : Ban} {H : Hp} {d : PyData} {v : V} {T : String} {b : Bool} (h : Dq D H d v) (kb : kitB (tyN d) T = some b) : RC (rIsi K) [v, .ty T] H (.bl b) := fun H1 e Q q =>
  ⟨v, .ty T, _, _, b, rfl, .ty T, tyx (Dq.same e h), kit_ty kb, q H1 (Ex.refl H1)⟩
theorem ev_isi {K : PySem.W.Frag} {D : Ban} {σ : L2.St} {H : Hp} {d : PyData} {v : V} {T : String} {b : Bool} {te : TE} (he : Ev te σ H v) (h : Dq D H d v) (kb : kitB (tyN d) T = some b) : Ev (tCB (rIsi K) (tCons te (tCons (tC (.ty T)) tNil))) σ H (.bl b) :=
  Evl.ev_cb (Evl.ea_cons he (Evl.ea_cons Evl.ev_c Evl.ea_nil)) (rc_isi h kb)
/-! ### forms.py -/
def top (i : Nat) : Stmt := PySem.Challenge.pw_allshelves_k01_protocols_of_any_values.main.body.getD i (.Pass ⟨0, 0, 0, 0⟩)
end Al
namespace Al
open PySem PySem.Spec PyProof.Rows L2
open Evl (Ex Ev EvT EvA EvL EvU SpV RV RC RCL)
/-! ### more of what evaluates to what -/
section
variable {K : PySem.W.Frag} {σ : L2.St} {H : Hp} {ta tb tc te tl : TE} {t : TT} {x y z v : V}
theorem ev_chain {r r' : R2} {a b : Bool} (h1 : Ev ta σ H x) (h2 : Ev tb σ H y) (h3 : RV r x y H (.bl a)) (h4 : a = true → Ev tc σ H z) (h5 : a = true → RV r' y z H (.bl b)) : Ev (tChain r r' ta tb tc) σ H (.bl (a && b)) := fun H1 e Q q =>
  h1 H1 e _ fun H2 e2 => h2 H2 (e.trans e2) _ fun H3 e3 => h3 H3 ((e.trans e2).trans e3) _ fun H4 e4 => ⟨a, rfl, by
    cases a with
    | true =>
      refine iteT ?_
      refine h4 rfl H4 (((e.trans e2).trans e3).trans e4) _ fun H5 e5 => ?_
      refine h5 rfl H5 ((((e.trans e2).trans e3).trans e4).trans e5) Q fun H6 e6 => ?_
      exact q H6 ((((e2.trans e3).trans e4).trans e5).trans e6)
    | false =>
      refine iteF ?_
      exact q H4 ((e2.trans e3).trans e4)⟩
theorem rv_le {i j : Int} : RV (rI0 fun i j => .bl (decide (i ≤ j))) (.int i) (.int j) H (.bl (decide (i ≤ j))) := Evl.rv_I0
theorem ev_lenT {p : Addr} {xs : List V} (ha : Ev ta σ H (.ref p)) (h : SqT K H p xs) : Ev (tCB (fun xs H Q => ∃ p ys, xs = [.ref p] ∧ (SqL K H p ys ∨ SqT K H p ys) ∧ Q (.int ys.length) H) (tCons ta tNil)) σ H (.int (xs.length : Int)) := fun H1 e Q q =>
  ha H1 e _ fun H2 e2 => ⟨p, xs, rfl, Or.inr (Evl.ex_t (e.trans e2) h), q H2 e2⟩
theorem ev_lenS {w : Str} (ha : Ev ta σ H (.str w)) (h : w.length ≤ sizeLine) : Ev (tCB (fun xs H Q => ∃ z, xs = [.str z] ∧ z.length ≤ sizeLine ∧ Q (.int z.length) H) (tCons ta tNil)) σ H (.int (w.length : Int)) := fun H1 e Q q =>
  ha H1 e _ fun H2 e2 => ⟨w, rfl, h, q H2 e2⟩
theorem ev_ixT {p : Addr} {xs : List V} {i : Nat} (ha : Ev ta σ H (.ref p)) (hi : Ev tb σ H (.int (i : Int))) (h : SqT K H p xs) (e : xs[i]? = some v) : Ev (tOp (rIxT K) ta tb) σ H v := Evl.ev_op ha hi (Evl.rv_ixT h (atI_nat e))
/-- all of a new list of bools -/
theorem ev_all {bs : List Bool} (h : EvL te σ H (bs.map V.bl)) : Ev (tCB (rAll K) (tCons te tNil)) σ H (.bl (bs.all id)) := fun H1 e Q q =>
  h H1 e _ fun p H2 _ e2 hp => ⟨p, bs, rfl, Evl.sq_of hp, q H2 e2⟩
/-- .. over a tuple; a text -/
theorem el_lcT {a : Addr} {xs : List V} {g : TG} {vs : List Nat} (st : Nat → L2.St) (f : Nat → Bool) (v : Nat → V) (h : Ev tl σ H (.ref a)) (hx : SqT K H a xs) (hz : xs.length ≤ 40000)
    (hg : ∀ (i : Nat) (x : V) H1, Ex H H1 → xs[i]? = some x → ∀ k : L2.St → Hp → Prop, (∀ H2, Ex H1 H2 → k (st i) H2) → g x (wipe σ vs) H1 k)
    (hw : ∀ i, wipe (st i) vs = wipe σ vs)
    (ht : ∀ (i : Nat) (x : V) H1, Ex H H1 → xs[i]? = some x → EvT t (st i) H1 (f i)) (he : ∀ (i : Nat) (x : V) H1, Ex H H1 → xs[i]? = some x → f i = true → Ev te (st i) H1 (v i)) :
    EvL (tLc (iTup K tl) g t te vs) σ H (Evl.given xs.length f v) := fun H0 e Q q => h H0 e _ fun H1 e1 => ⟨a, rfl, ⟨xs, Evl.ex_t (e.trans e1) hx⟩, fun Dl hD =>
  lc_tup (xs := xs) (Evl.Cw H1 f v Dl) ⟨hD, Ex.new hD, upd_same⟩ (fun i H' _ p => Evl.ex_t ((e.trans e1).trans p.2.1) hx) (fun i x H' hi p => by
      refine hg i x H' ((e.trans e1).trans p.2.1) hi _ fun H2 e2 => ⟨hw i, ?_⟩
      have p2 : Evl.Cw H1 f v Dl i H2 := ⟨p.1, p.2.1.trans e2, e2 _ _ p.2.2⟩
      exact Evl.cw_turn p2 (by have := (List.getElem?_eq_some_iff.mp hi).1; omega) (ht i x H1 (e.trans e1) hi) (fun hf => he i x H1 (e.trans e1) hi hf))
    (fun H' p => q Dl H' (Evl.fresh_back e1 p.1) (e1.trans p.2.1) p.2.2)⟩
theorem el_lcS {z : Str} {j : Nat} {vs : List Nat} (f : Nat → Bool) (v : Nat → V) (h : Ev tl σ H (.str z)) (hz : z.cps.size ≤ 40000) (hw : ∀ x, wipe ((wipe σ vs).set j (some x)) vs = wipe σ vs)
    (ht : ∀ (i c : Nat) H1, Ex H H1 → z.cps[i]? = some c → EvT t ((wipe σ vs).set j (some (.str ⟨#[c]⟩))) H1 (f i)) (he : ∀ (i c : Nat) H1, Ex H H1 → z.cps[i]? = some c → f i = true → Ev te ((wipe σ vs).set j (some (.str ⟨#[c]⟩))) H1 (v i)) :
    EvL (tLc (iStr tl) (gName j) t te vs) σ H (Evl.given z.cps.size f v) := fun H0 e Q q => h H0 e _ fun H1 e1 => ⟨z, rfl, fun Dl hD => by
  refine ⟨fun i m H' => m = z.cps.size - i ∧ i ≤ z.cps.size ∧ Evl.Cw H1 f v Dl i H', ⟨z.cps.size, by simp, Nat.zero_le _, hD, Ex.new hD, upd_same⟩, ?_⟩
  rintro i m H' ⟨rfl, hi, p⟩
  by_cases hlt : i < z.cps.size
  · refine .inr ⟨hlt, fun H2 => Evl.Cw H1 f v Dl (i + 1) H2, fun H2 p2 => ⟨z.cps.size - (i + 1), by omega, rfl, hlt, p2⟩, ?_⟩
    rintro x H2 ⟨rfl, c, hc, rfl⟩
    exact ⟨hw _, Evl.cw_turn p (by omega) (ht i c H1 (e.trans e1) hc) (fun hf => he i c H1 (e.trans e1) hc hf)⟩
  · have hn : i = z.cps.size := by omega
    subst hn
    exact .inl ⟨Nat.le_refl _, q Dl H' (Evl.fresh_back e1 p.1) (e1.trans p.2.1) p.2.2⟩⟩
theorem given_all (n : Nat) (v : Nat → V) : Evl.given n (fun _ => true) v = (List.range n).map v := by
  unfold Evl.given
  rw [List.filter_eq_self.mpr (fun _ _ => rfl)]
theorem et_yes : EvT tYes σ H true := fun H1 _ _ q => q H1 (Ex.refl H1)
theorem given_bl (n : Nat) (b : Nat → Bool) : Evl.given n (fun _ => true) (fun i => .bl (b i)) = ((List.range n).map b).map V.bl := by
  rw [given_all, List.map_map]
  rfl
end
/-! ### forms.py -/
def isInt : PyData → Bool
  | .int _ => true
  | _ => false
theorem isInt_eq (d : PyData) : (isIntB d && !isBl d) = isInt d := by cases d <;> rfl
def isIn (lo hi : Int) : PyData → Bool
  | .int i => decide (lo ≤ i) && decide (i ≤ hi)
  | _ => false
/-- a text of so many small letters -/
def abc : Str := "abcdefghijklmnopqrstuvwxyz"
def isWordS (z : Str) : Bool := decide (1 ≤ z.length) && decide (z.length ≤ 10) && (z.cps.toList.all fun c => decide (c ∈ abc.cps.toList))
def isWord : PyData → Bool
  | .str z => isWordS z
  | _ => false
def isTupN (n : Int) : PyData → Bool
  | .tuple ds => decide ((ds.length : Int) = n)
  | _ => false
/-- a value that is small enough for this law -/
def R3 : List V → Hp → V → Prop := fun vs H z => ∃ (D : Ban) (d : PyData) (v : V) (lo hi : Int), vs = [v, .int lo, .int hi] ∧ Dq D H d v ∧ z = .bl (isIn lo hi d)
def RT : List V → Hp → V → Prop := fun vs H z => ∃ (D : Ban) (d : PyData) (v : V) (n : Int), vs = [v, .int n] ∧ Dq D H d v ∧ z = .bl (isTupN n d)
def strFit : PyData → Bool
  | .str z => decide (z.length ≤ 40000)
  | _ => true
def RW : List V → Hp → V → Prop := fun vs H z => ∃ (D : Ban) (d : PyData) (v : V), vs = [v] ∧ Dq D H d v ∧ strFit d = true ∧ z = .bl (isWord d)
/-- the constants of the module -/
structure Cst (K : PySem.W.Frag) (mg : Str → Option Value) : Prop where
  ALPHABET : ∃ u, mg "ALPHABET" = some u ∧ RelV (.str abc) u
  LONGEST_WORD : ∃ u, mg "LONGEST_WORD" = some u ∧ RelV (.int 10) u
section
variable {P : Program} {w : World} {K : PySem.W.Frag} {mg : Str → Option Value} {base : Heap}
theorem pcst {X : Cx} {x : Str} {v : V} {pos : Pos} (h : ∃ u, X.mg x = some u ∧ RelV v u) (hg : Gl X x := by rfl) (hd : (x == ("__debug__" : Str)) = false := by decide) : PE X (.Name x pos) (tC v) := by
  obtain ⟨u, e, r⟩ := h
  exact pe_glob hg e r hd
theorem pty {X : Cx} {x : Str} {T : String} {pos : Pos} (hm : X.mg x = none) (hv : bootBuiltins x = some (.type T)) (hg : Gl X x := by rfl) (hn : x ≠ "__name__" := by decide) (hd : (x == ("__debug__" : Str)) = false := by decide) : PE X (.Name x pos) (tC (.ty T)) := pe_bltn hg hm hv rfl hn hd
theorem len_spV {R : List V → Hp → V → Prop} {n : Nat} (h : ∀ vs H z, R vs H z → vs.length = n) : ∀ vs H Q E, spV R vs H Q E → vs.length = n := fun vs H Q E ⟨z, r, _⟩ => h vs H z r
theorem sc_is_integer : FnScope ["thing"] ["thing"] (defScope (top 6)) := ⟨rfl, rfl, rfl, by decide +kernel, rfl, by decide +kernel, by decide +kernel⟩
theorem ok_is_integer (F : Def K mg "is_integer" (top 6) ["thing"]) (B : Bl mg) : Cal P w K mg base 1 "is_integer" (spV (R1 isInt)) := by
  refine Cal.of F sc_is_integer (len_spV fun vs H z ⟨D, d, v, e, _⟩ => by rw [e]; rfl) (fun f cdv A outer s H vs Q E hr h => ?_)
  obtain ⟨z, ⟨D, d, v, rfl, hd, rfl⟩, q⟩ := h
  refine ⟨_, (pss_one (ps_ret (pe_and (pe_callB call_isi (by rfl) B.isinstance b_isinstance (pa_cons (pv 0) (pa_cons (pty B.int b_int) pa_nil))) (pe_one (pe_not (pe_callB call_isi (by rfl) B.isinstance b_isinstance (pa_cons (pv 0) (pa_cons (pty B.bool b_bool) pa_nil)))))))), ?_⟩
  rw [← isInt_eq] at q
  exact Evl.s_ret (Evl.ev_andV (ev_isi (Evl.ev_var rfl) hd (kb_int d)) fun _ => Evl.ev_notV (ev_isi (Evl.ev_var rfl) hd (kb_bool d))) q
theorem sc_is_integer_in : FnScope ["thing", "low", "high"] ["thing", "low", "high"] (defScope (top 7)) := ⟨rfl, rfl, rfl, by decide +kernel, rfl, by decide +kernel, by decide +kernel⟩
theorem ok_is_integer_in (F : Def K mg "is_integer_in" (top 7) ["thing", "low", "high"]) (c_is_integer : Cal P w K mg base 1 "is_integer" (spV (R1 isInt))) : Cal P w K mg base 2 "is_integer_in" (spV R3) := by
  refine Cal.of F sc_is_integer_in (len_spV fun vs H z ⟨D, d, v, lo, hi, e, _⟩ => by rw [e]; rfl) (fun f cdv A outer s H vs Q E hr h => ?_)
  obtain ⟨z, ⟨D, d, v, lo, hi, rfl, hd, rfl⟩, q⟩ := h
  refine ⟨_, (pss_one (ps_ret (pe_and (pcall c_is_integer hr (pa_cons (pv 0) pa_nil)) (pe_one (pe_chain op_le op_le (pv 1) (pv 0) (pv 2)))))), ?_⟩
  have e1 : isIn lo hi d = (isInt d && isIn lo hi d) := by cases d <;> rfl
  rw [e1] at q
  refine Evl.s_ret (Evl.ev_andV (ev_def (Evl.ea_cons (Evl.ev_var rfl) Evl.ea_nil) fun H1 e => ⟨D, d, v, rfl, Dq.same e hd, rfl⟩) fun hi' => ?_) q
  cases d with
  | int i =>
    unfold Dq at hd
    subst hd
    exact ev_chain (Evl.ev_var rfl) (Evl.ev_var rfl) Evl.rv_I0 (fun _ => Evl.ev_var rfl) (fun _ => Evl.rv_I0)
  | _ => cases hi'
theorem sc_is_tuple_of : FnScope ["thing", "many"] ["thing", "many"] (defScope (top 9)) := ⟨rfl, rfl, rfl, by decide +kernel, rfl, by decide +kernel, by decide +kernel⟩
theorem ok_is_tuple_of (F : Def K mg "is_tuple_of" (top 9) ["thing", "many"]) (B : Bl mg) : Cal P w K mg base 1 "is_tuple_of" (spV RT) := by
  refine Cal.of F sc_is_tuple_of (len_spV fun vs H z ⟨D, d, v, n, e, _⟩ => by rw [e]; rfl) (fun f cdv A outer s H vs Q E hr h => ?_)
  obtain ⟨z, ⟨D, d, v, n, rfl, hd, rfl⟩, q⟩ := h
  refine ⟨_, (pss_one (ps_ret (pe_and (pe_callB call_isi (by rfl) B.isinstance b_isinstance (pa_cons (pv 0) (pa_cons (pty B.tuple b_tuple) pa_nil))) (pe_one (pe_cmpR op_eq (pe_callB call_len_seq (by rfl) B.len b_len (pa_cons (pv 0) pa_nil)) (pv 1) (nomark _)))))), ?_⟩
  have e1 : isTupN n d = (isTup d && isTupN n d) := by cases d <;> rfl
  rw [e1] at q
  refine Evl.s_ret (Evl.ev_andV (ev_isi (Evl.ev_var rfl) hd (kb_tup d)) fun ht => ?_) q
  cases d with
  | tuple ds =>
    unfold Dq at hd
    obtain ⟨a, xs, rfl, _, ha, hl⟩ := hd
    have e2 : (V.bl (isTupN n (.tuple ds))) = V.bl (decide (V.int (xs.length : Int) = V.int n)) := by
      rw [hl.length]
      refine congrArg V.bl (decide_eq_decide.mpr ⟨fun e => by rw [e], fun e => V.int.inj e⟩)
    rw [e2]
    exact Evl.ev_op (ev_lenT (Evl.ev_var rfl) (Evl.st_of ha)) (Evl.ev_var rfl) (Evl.rv_eq rfl)
  | _ => cases ht
theorem sc_is_word : FnScope ["thing", "letter"] ["thing"] (defScope (top 8)) := ⟨rfl, rfl, rfl, by decide +kernel, rfl, by decide +kernel, by decide +kernel⟩
theorem all_signs (z : Str) (p : Nat → Bool) : ((List.range z.cps.size).map fun i => p (z.cps[i]?.getD 0)).all id = z.cps.toList.all p := by
  obtain ⟨⟨l⟩⟩ := z
  show ((List.range l.length).map fun i => p ((l.toArray)[i]?.getD 0)).all id = l.all p
  have e : ((List.range l.length).map fun i => p ((l.toArray)[i]?.getD 0)) = l.map p := by
    apply List.ext_getElem
    · simp
    · intro i h1 h2
      have h3 : i < l.length := by simpa using h2
      simp [List.getElem?_eq_getElem h3]
  rw [e, List.all_map]
  rfl
theorem ok_is_word (F : Def K mg "is_word" (top 8) ["thing"]) (B : Bl mg) (C : Cst K mg) : Cal P w K mg base 1 "is_word" (spV RW) := by
  refine Cal.of F sc_is_word (len_spV fun vs H z ⟨D, d, v, e, _⟩ => by rw [e]; rfl) (fun f cdv A outer s H vs Q E hr h => ?_)
  obtain ⟨z, ⟨D, d, v, rfl, hd, hf, rfl⟩, q⟩ := h
  refine ⟨_, (pss_cons (ps_if (PW.pt (pw_or (pt_not (pt_val (pe_callB call_isi (by rfl) B.isinstance b_isinstance (pa_cons (pv 0) (pa_cons (pty B.str b_str) pa_nil))))) (pw_or1 (pt_not (pt_chain op_le op_le pe_int (pe_callB call_len_str (by rfl) B.len b_len (pa_cons (pv 0) pa_nil)) (pcst C.LONGEST_WORD)))))) (pss_one (ps_ret pe_bl)) pss_nil)
      (pss_one (ps_ret (pe_callB (cr_all rfl) (by rfl) B.all b_all (pa_cons (pe_lc (own := [("letter", 1)]) (g := gName 1) (tt := tYes) rfl sc_is_word.nd (pi_str (pv 0)) (blkOk_by (N := ["thing", "letter"]) (sc := defScope (top 8)) (by decide +kernel)) (fun _ _ _ _ _ => pg_name (i := 1) sc_is_word.nd rfl (Or.inl rfl)) (fun _ _ _ _ _ => pts_nil)
        (fun _ _ _ _ _ => pe_cmpR op_in_sign (pv 1) (pcst C.ALPHABET) (by rfl))) pa_nil))))), ?_⟩
  refine Evl.q_when (b := !isStr d || !(match d with | .str z => decide (1 ≤ z.length) && decide (z.length ≤ 10) | _ => false)) ?_ ?_ ?_
  · refine Evl.et_or (Evl.et_not (Evl.et_B (ev_isi (Evl.ev_var rfl) hd (kb_str d)))) fun hs => ?_
    cases d with
    | str z =>
      unfold Dq at hd
      subst hd
      have hz : z.length ≤ 40000 := of_decide_eq_true hf
      refine Evl.et_not (Evl.et_test ?_)
      have e3 : (decide (1 ≤ z.length) && decide (z.length ≤ 10)) = (decide ((1 : Int) ≤ (z.length : Int)) && decide ((z.length : Int) ≤ 10)) := by
        congr 1 <;> exact decide_eq_decide.mpr ⟨fun _ => by omega, fun _ => by omega⟩
      show Ev _ _ _ (.bl (decide (1 ≤ z.length) && decide (z.length ≤ 10)))
      rw [e3]
      exact ev_chain Evl.ev_c (ev_lenS (Evl.ev_var rfl) (Nat.le_trans hz (by decide))) Evl.rv_I0 (fun _ => Evl.ev_c) (fun _ => Evl.rv_I0)
    | _ => cases hs
  · intro hb H1 e1
    refine Evl.s_ret Evl.ev_c fun H2 e2 => ?_
    have e4 : isWord d = false := by
      cases d with
      | str z =>
        show (decide (1 ≤ z.length) && decide (z.length ≤ 10) && _) = false
        have hb' : (!(decide (1 ≤ z.length) && decide (z.length ≤ 10))) = true := hb
        rw [Bool.not_eq_true'] at hb'
        rw [hb', Bool.false_and]
      | _ => rfl
    rw [← e4]
    exact q H2 (e1.trans e2)
  · intro hb H1 e1
    cases d with
    | str z =>
      unfold Dq at hd
      subst hd
      have hz : z.length ≤ 40000 := of_decide_eq_true hf
      have hb' : (decide (1 ≤ z.length) && decide (z.length ≤ 10)) = true := by
        have hb2 : (!(decide (1 ≤ z.length) && decide (z.length ≤ 10))) = false := hb
        simpa using hb2
      have e5 : isWord (.str z) = (((List.range z.cps.size).map fun i => decide (z.cps[i]?.getD 0 ∈ abc.cps.toList)).all id) := by
        rw [all_signs z fun c => decide (c ∈ abc.cps.toList)]
        show (decide (1 ≤ z.length) && decide (z.length ≤ 10) && _) = _
        rw [hb', Bool.true_and]
      rw [e5] at q
      refine Evl.s_ret (ev_all ?_) fun H2 e2 => q H2 (e1.trans e2)
      rw [← given_bl]
      refine el_lcS (fun _ => true) _ (Evl.ev_var rfl) hz (fun x => rfl) (fun i c H2 e2 hc => et_yes) (fun i c H2 e2 hc _ => ?_)
      refine Evl.ev_op (Evl.ev_var rfl) Evl.ev_c ?_
      rw [hc]
      exact fun H3 e3 Q' q' => ⟨c, abc, rfl, rfl, q' H3 (Ex.refl H3)⟩
    | _ => cases hb
end
end Al
namespace Al
open PySem PySem.Spec PyProof.Rows L2
open Evl (Ex Ev EvT EvA EvL EvU SpV RV RC RCL)
/-! ### data of a size that everything here takes -/
mutual
def fit : PyData → Bool
  | .none => true
  | .bool _ => true
  | .int i => decide (i.natAbs < 2 ^ 1000)
  | .str z => decide (z.length ≤ 40000)
  | .list ds => decide (ds.length ≤ 40000) && fitL ds
  | .tuple ds => decide (ds.length ≤ 40000) && fitL ds
  | .dict kvs => decide (kvs.length ≤ 40000) && fitK kvs
def fitL : List PyData → Bool
  | [] => true
  | d :: ds => fit d && fitL ds
def fitK : List (PyData × PyData) → Bool
  | [] => true
  | (k, d) :: r => fit k && fit d && fitK r
end
theorem fitL_mem : ∀ {ds : List PyData} {d : PyData}, fitL ds = true → d ∈ ds → fit d = true
  | [], _, _, h => by cases h
  | e :: ds, d, h, m => by
    unfold fitL at h
    rw [Bool.and_eq_true] at h
    rcases List.mem_cons.mp m with z | z
    · rw [z]; exact h.1
    · exact fitL_mem h.2 z
theorem fit_tup {ds : List PyData} (h : fit (.tuple ds) = true) : ds.length ≤ 40000 ∧ fitL ds = true := by
  unfold fit at h
  rw [Bool.and_eq_true] at h
  exact ⟨of_decide_eq_true h.1, h.2⟩
theorem fit_mem {ds : List PyData} {d : PyData} (h : fit (.tuple ds) = true) (m : d ∈ ds) : fit d = true := fitL_mem (fit_tup h).2 m
theorem fit_str {d : PyData} (h : fit d = true) : strFit d = true := by
  cases d with
  | str z => exact h
  | _ => rfl
/-! ### roles.py: what it looks for -/
def plain : List Str := ["able", "unable", "timer"]
def kinds : List Str := ["each", "some"]
def ends : List Str := ["kept", "dropped", ""]
def toL : List Str := ["members", "others"]
def toM : List Str := ["leader", "members", "others"]
def isCause : PyData → Bool
  | .tuple [a] => anyS plain a
  | .tuple [a, b] => anyS kinds a && isWord b
  | _ => false
def isMarking (m : PyData) : PyData → Bool
  | .bool b => isWord m || (isS "" m && !b)
  | _ => false
def isLetter (tos : List Str) : PyData → Bool
  | .tuple [k, t] => isWord k && anyS tos t
  | _ => false
def isLetters (tos : List Str) : PyData → Bool
  | .tuple ls => decide (ls.length ≤ 4) && ls.all (isLetter tos)
  | _ => false
def isRule (tos : List Str) (many : Int) : PyData → Bool
  | .tuple [c, m, f, l, g] => isCause c && (isMarking m f && (isLetters tos l && isIn 0 (many - 1) g))
  | _ => false
def isState (tos : List Str) (many : Int) : PyData → Bool
  | .tuple [e, .tuple rs] => anyS ends e && decide (rs.length ≤ 6) && rs.all (isRule tos many)
  | _ => false
/-- the constants of roles.py -/
structure Cst2 (K : PySem.W.Frag) (mg : Str → Option Value) : Prop where
  ENDS : ∃ a, mg "ENDS" = some (.ref a) ∧ ∀ H, SqT K H a (ends.map V.str)
  PLAIN_CAUSES : ∃ a, mg "PLAIN_CAUSES" = some (.ref a) ∧ ∀ H, SqT K H a (plain.map V.str)
  KIND_CAUSES : ∃ a, mg "KIND_CAUSES" = some (.ref a) ∧ ∀ H, SqT K H a (kinds.map V.str)
  LEADER_SENDS_TO : ∃ a, mg "LEADER_SENDS_TO" = some (.ref a) ∧ ∀ H, SqT K H a (toL.map V.str)
  MEMBER_SENDS_TO : ∃ a, mg "MEMBER_SENDS_TO" = some (.ref a) ∧ ∀ H, SqT K H a (toM.map V.str)
  MOST_STATES : ∃ u, mg "MOST_STATES" = some u ∧ RelV (.int 12) u
  MOST_RULES : ∃ u, mg "MOST_RULES" = some u ∧ RelV (.int 6) u
  MOST_LETTERS : ∃ u, mg "MOST_LETTERS" = some u ∧ RelV (.int 4) u
theorem pref {X : Cx} {x : Str} {a : Addr} {pos : Pos} (h : X.mg x = some (.ref a)) (hg : Gl X x := by rfl) (hd : (x == ("__debug__" : Str)) = false := by decide) : PE X (.Name x pos) (tC (.ref a)) := pe_glob hg h rfl hd
def R1f (f : PyData → Bool) : List V → Hp → V → Prop := fun vs H z => ∃ (D : Ban) (d : PyData) (v : V), vs = [v] ∧ Dq D H d v ∧ fit d = true ∧ z = .bl (f d)
def R2f (f : PyData → PyData → Bool) : List V → Hp → V → Prop := fun vs H z => ∃ (D : Ban) (d e : PyData) (v u : V), vs = [v, u] ∧ Dq D H d v ∧ Dq D H e u ∧ fit d = true ∧ fit e = true ∧ z = .bl (f d e)
/-- f(thing, sends_to); f(thing, many, sends_to) -/
def RtoS (K : PySem.W.Frag) (f : List Str → PyData → Bool) : List V → Hp → V → Prop := fun vs H z => ∃ (D : Ban) (d : PyData) (v : V) (p : Addr) (tos : List Str), vs = [v, .ref p] ∧ Dq D H d v ∧ fit d = true ∧ SqT K H p (tos.map V.str) ∧ z = .bl (f tos d)
def RmtS (K : PySem.W.Frag) (f : List Str → Int → PyData → Bool) : List V → Hp → V → Prop := fun vs H z => ∃ (D : Ban) (d : PyData) (v : V) (n : Int) (p : Addr) (tos : List Str), vs = [v, .int n, .ref p] ∧ Dq D H d v ∧ fit d = true ∧ SqT K H p (tos.map V.str) ∧ z = .bl (f tos n d)
section
variable {K : PySem.W.Frag} {σ : L2.St} {H : Hp} {ta tb tc te tl : TE} {t : TT} {x y z v : V} {Dn : Ends} {tz : TS}
theorem rv_inS {D : Ban} {d : PyData} {p : Addr} {zs : List Str} (hd : Dq D H d x) (hq : SqT K H p (zs.map V.str)) : RV (rInS K false) x (.ref p) H (.bl (anyS zs d)) := fun H1 e _ q => ⟨D, d, p, zs, Dq.same e hd, rfl, Evl.ex_t e hq, q H1 (Ex.refl H1)⟩
theorem rv_ninS {D : Ban} {d : PyData} {p : Addr} {zs : List Str} (hd : Dq D H d x) (hq : SqT K H p (zs.map V.str)) : RV (rInS K true) x (.ref p) H (.bl (!anyS zs d)) := fun H1 e _ q => ⟨D, d, p, zs, Dq.same e hd, rfl, Evl.ex_t e hq, q H1 (Ex.refl H1)⟩
theorem rv_eqS {D : Ban} {d : PyData} {w : Str} (hd : Dq D H d x) : RV rEqS x (.str w) H (.bl (isS w d)) := fun H1 e _ q => ⟨D, d, w, Dq.same e hd, rfl, q H1 (Ex.refl H1)⟩
/-- a, b, .. = a tuple -/
theorem q_unp {n : Nat} {gs : TGs} {a : Addr} {xs : List V} (h : Ev te σ H (.ref a)) (hx : SqT K H a xs) (hl : xs.length = n) (k : ∀ H1, Ex H H1 → gs xs σ H1 fun σ' H' => tz Dn σ' H') : tSeq (tAsg te (gTup K n gs)) tz Dn σ H :=
  h H (Ex.refl H) _ fun H1 e => ⟨a, xs, rfl, Evl.ex_t e hx, hl, k H1 e⟩
theorem all_at (ds : List PyData) (p : PyData → Bool) : ((List.range ds.length).map fun i => p (ds[i]?.getD .none)).all id = ds.all p := by
  have e : ((List.range ds.length).map fun i => p (ds[i]?.getD .none)) = ds.map p := by
    apply List.ext_getElem
    · simp
    · intro i h1 h2
      have h3 : i < ds.length := by simpa using h2
      simp [List.getElem?_eq_getElem h3]
  rw [e, List.all_map]
  rfl
/-- all([f(x) for x in a tuple of data]) -/
theorem ev_allD {D : Ban} {ds : List PyData} {xs : List V} {a : Addr} {j : Nat} {vs : List Nat} (p : PyData → Bool) (h : Ev tl σ H (.ref a)) (ha : H a = some (.tup xs)) (hl : DqL D H ds xs) (hz : ds.length ≤ 40000) (hw : ∀ x, wipe ((wipe σ vs).set j (some x)) vs = wipe σ vs)
    (he : ∀ (d : PyData) (x : V) H1, Ex H H1 → d ∈ ds → Dq D H1 d x → Ev te ((wipe σ vs).set j (some x)) H1 (.bl (p d))) :
    Ev (tCB (rAll K) (tCons (tLc (iTup K tl) (gName j) tYes te vs) tNil)) σ H (.bl (ds.all p)) := by
  rw [← all_at]
  refine ev_all ?_
  rw [← given_bl, ← hl.length]
  refine el_lcT (fun i => (wipe σ vs).set j (some (xs[i]?.getD .non))) (fun _ => true) _ h (Evl.st_of ha) (by rw [hl.length]; exact hz) (fun i x H1 e hi k q => ?_) (fun i => hw _) (fun i x H1 e hi => et_yes) (fun i x H1 e hi _ => ?_)
  · rw [hi] at q
    exact q H1 (Ex.refl H1)
  · obtain ⟨d, hd, hq⟩ := hl.getV hi
    rw [hi, hd]
    exact he d x H1 e (List.mem_of_getElem? hd) (Dq.same e hq)
end
section
variable {P : Program} {w : World} {K : PySem.W.Frag} {mg : Str → Option Value} {base : Heap}
theorem isTupN_iff {n : Nat} {d : PyData} (h : isTupN (n : Int) d = true) : ∃ ds, d = .tuple ds ∧ ds.length = n := by
  cases d with
  | tuple ds => exact ⟨ds, rfl, by have q := of_decide_eq_true h; omega⟩
  | _ => cases h
theorem ev_tupN {σ : L2.St} {H : Hp} {E : XK} {ta tb : TE} {D : Ban} {d : PyData} {v : V} {n : Int} (hd : Dq D H d v) (ha : Ev ta σ H v) (hb : Ev tb σ H (.int n)) : Ev (tCall (spV RT) [] E (tCons ta (tCons tb tNil))) σ H (.bl (isTupN n d)) :=
  ev_def (Evl.ea_cons ha (Evl.ea_cons hb Evl.ea_nil)) fun H1 e => ⟨D, d, v, n, rfl, Dq.same e hd, rfl⟩
theorem ev_wordD {σ : L2.St} {H : Hp} {E : XK} {ta : TE} {D : Ban} {d : PyData} {v : V} (hd : Dq D H d v) (hf : fit d = true) (ha : Ev ta σ H v) : Ev (tCall (spV RW) [] E (tCons ta tNil)) σ H (.bl (isWord d)) :=
  ev_def (Evl.ea_cons ha Evl.ea_nil) fun H1 e => ⟨D, d, v, rfl, Dq.same e hd, fit_str hf, rfl⟩
theorem ev_inD {σ : L2.St} {H : Hp} {E : XK} {ta tb tc : TE} {D : Ban} {d : PyData} {v : V} {lo hi : Int} (hd : Dq D H d v) (ha : Ev ta σ H v) (hb : Ev tb σ H (.int lo)) (hc : Ev tc σ H (.int hi)) : Ev (tCall (spV R3) [] E (tCons ta (tCons tb (tCons tc tNil)))) σ H (.bl (isIn lo hi d)) :=
  ev_def (Evl.ea_cons ha (Evl.ea_cons hb (Evl.ea_cons hc Evl.ea_nil))) fun H1 e => ⟨D, d, v, lo, hi, rfl, Dq.same e hd, rfl⟩
theorem hu1 {A : Around} {k : Nat} (hr : Room k A) : A.units + 1 < cLine := hu_of hr
theorem sc_cause : FnScope ["thing"] ["thing"] (defScope (top 24)) := ⟨rfl, rfl, rfl, by decide +kernel, rfl, by decide +kernel, by decide +kernel⟩
theorem ok_cause (F : Def K mg "has_cause_form" (top 24) ["thing"]) (C2 : Cst2 K mg) (c_is_tuple_of : Cal P w K mg base 1 "is_tuple_of" (spV RT)) (c_is_word : Cal P w K mg base 1 "is_word" (spV RW)) : Cal P w K mg base 2 "has_cause_form" (spV (R1f isCause)) := by
  refine Cal.of F sc_cause (len_spV fun vs H z ⟨D, d, v, e, _⟩ => by rw [e]; rfl) (fun f cdv A outer s H vs Q E hr h => ?_)
  obtain ⟨z, ⟨D, d, v, rfl, hd, hf, rfl⟩, q⟩ := h
  obtain ⟨aP, mP, sP⟩ := C2.PLAIN_CAUSES
  obtain ⟨aK, mK, sK⟩ := C2.KIND_CAUSES
  refine ⟨_, (pss_cons (ps_if (pt_val (pcall c_is_tuple_of hr (pa_cons (pv 0) (pa_cons pe_int pa_nil)))) (pss_one (ps_ret (pe_cmpR (op_inS (hu1 hr)) (pe_ix ix_tup (pv 0) pe_int (fun _ _ => rfl)) (pref mP) (by rfl)))) pss_nil)
      (pss_one (ps_ret (pe_and (pcall c_is_tuple_of hr (pa_cons (pv 0) (pa_cons pe_int pa_nil))) (pe_and (pe_cmpR (op_inS (hu1 hr)) (pe_ix ix_tup (pv 0) pe_int (fun _ _ => rfl)) (pref mK) (by rfl)) (pe_one (pcall c_is_word hr (pa_cons (pe_ix ix_tup (pv 0) pe_int (fun _ _ => rfl)) pa_nil)))))))), ?_⟩
  refine Evl.q_when (b := isTupN 1 d) (Evl.et_B (ev_tupN hd (Evl.ev_var rfl) Evl.ev_c)) (fun h1 H1 e1 => ?_) (fun h1 H1 e1 => ?_)
  · obtain ⟨ds, rfl, hl⟩ := isTupN_iff (n := 1) h1
    match ds, hl with
    | [a], _ =>
      unfold Dq at hd
      obtain ⟨p, xs, rfl, _, ha, hx⟩ := hd
      obtain ⟨x, hx0, hdx⟩ := hx.get (i := 0) rfl
      exact Evl.s_ret (Evl.ev_op (ev_ixT (i := 0) (Evl.ev_var rfl) Evl.ev_c (Evl.ex_t e1 (Evl.st_of ha)) hx0) Evl.ev_c (rv_inS (Dq.same e1 hdx) (sP _))) fun H2 e2 => q H2 (e1.trans e2)
  · have key : isCause d = (isTupN 2 d && (match d with | .tuple [a, b] => anyS kinds a && isWord b | _ => false)) := by
      cases d with
      | tuple ds =>
        match ds with
        | [] => rfl
        | [a] => cases h1
        | [a, b] => rfl
        | a :: b :: c :: r =>
          show false = _
          rw [Bool.and_false]
      | _ => rfl
    rw [key] at q
    refine Evl.s_ret (Evl.ev_andV (ev_tupN (Dq.same e1 hd) (Evl.ev_var rfl) Evl.ev_c) fun h2 => ?_) fun H2 e2 => q H2 (e1.trans e2)
    obtain ⟨ds, rfl, hl⟩ := isTupN_iff (n := 2) h2
    match ds, hl with
    | [a, b], _ =>
      have hm := hd
      unfold Dq at hd
      obtain ⟨p, xs, rfl, _, ha, hx⟩ := hd
      obtain ⟨x, hx0, hdx⟩ := hx.get (i := 0) rfl
      obtain ⟨y, hy0, hdy⟩ := hx.get (i := 1) rfl
      have hfb : fit b = true := fit_mem hf (by simp)
      refine Evl.ev_andV (Evl.ev_op (ev_ixT (i := 0) (Evl.ev_var rfl) Evl.ev_c (Evl.ex_t e1 (Evl.st_of ha)) hx0) Evl.ev_c (rv_inS (Dq.same e1 hdx) (sK _))) fun _ => ?_
      exact ev_wordD (Dq.same e1 hdy) hfb (ev_ixT (i := 1) (Evl.ev_var rfl) Evl.ev_c (Evl.ex_t e1 (Evl.st_of ha)) hy0)
theorem sc_marking : FnScope ["mark", "forced"] ["mark", "forced"] (defScope (top 25)) := ⟨rfl, rfl, rfl, by decide +kernel, rfl, by decide +kernel, by decide +kernel⟩
theorem ok_marking (F : Def K mg "has_marking_form" (top 25) ["mark", "forced"]) (B : Bl mg) (c_is_word : Cal P w K mg base 1 "is_word" (spV RW)) : Cal P w K mg base 2 "has_marking_form" (spV (R2f isMarking)) := by
  refine Cal.of F sc_marking (len_spV fun vs H z ⟨D, d, e, v, u, h, _⟩ => by rw [h]; rfl) (fun f cdv A outer s H vs Q E hr h => ?_)
  obtain ⟨z, ⟨D, d, e, v, u, rfl, hd, he, hf, hg, rfl⟩, q⟩ := h
  refine ⟨_, (pss_cons (ps_if (pt_not (pt_val (pe_callB call_isi (by rfl) B.isinstance b_isinstance (pa_cons (pv 1) (pa_cons (pty B.bool b_bool) pa_nil))))) (pss_one (ps_ret pe_bl)) pss_nil)
      (pss_one (ps_ret (pe_or (pcall c_is_word hr (pa_cons (pv 0) pa_nil)) (pe_one (pe_and (pe_cmpR (op_eqS (hu1 hr)) (pv 0) pe_str (nomark _)) (pe_one (pe_not (pv 1))))))))), ?_⟩
  refine Evl.q_when (b := !isBl e) (Evl.et_not (Evl.et_B (ev_isi (Evl.ev_var rfl) he (kb_bool e)))) (fun h1 H1 e1 => ?_) (fun h1 H1 e1 => ?_)
  · have key : isMarking d e = false := by
      cases e with
      | bool b => cases h1
      | _ => rfl
    rw [key] at q
    exact Evl.s_ret Evl.ev_c fun H2 e2 => q H2 (e1.trans e2)
  · cases e with
    | bool b =>
      unfold Dq at he
      subst he
      refine Evl.s_ret (v := .bl (isWord d || (isS "" d && !b))) (Evl.ev_orV (ev_wordD (Dq.same e1 hd) hf (Evl.ev_var rfl)) fun _ => Evl.ev_andV (Evl.ev_op (Evl.ev_var rfl) Evl.ev_c (rv_eqS (Dq.same e1 hd))) fun _ => Evl.ev_notV (Evl.ev_var rfl)) fun H2 e2 => q H2 (e1.trans e2)
    | _ => cases h1
theorem sc_letter : FnScope ["thing", "sends_to"] ["thing", "sends_to"] (defScope (top 27)) := ⟨rfl, rfl, rfl, by decide +kernel, rfl, by decide +kernel, by decide +kernel⟩
theorem ok_letter (F : Def K mg "has_letter_form" (top 27) ["thing", "sends_to"]) (c_is_tuple_of : Cal P w K mg base 1 "is_tuple_of" (spV RT)) (c_is_word : Cal P w K mg base 1 "is_word" (spV RW)) : Cal P w K mg base 2 "has_letter_form" (spV (RtoS K isLetter)) := by
  refine Cal.of F sc_letter (len_spV fun vs H z ⟨D, d, v, p, tos, h, _⟩ => by rw [h]; rfl) (fun f cdv A outer s H vs Q E hr h => ?_)
  obtain ⟨z, ⟨D, d, v, p, tos, rfl, hd, hf, hp, rfl⟩, q⟩ := h
  refine ⟨_, (pss_one (ps_ret (pe_and (pcall c_is_tuple_of hr (pa_cons (pv 0) (pa_cons pe_int pa_nil))) (pe_and (pcall c_is_word hr (pa_cons (pe_ix ix_tup (pv 0) pe_int (fun _ _ => rfl)) pa_nil)) (pe_one (pe_cmpR (op_inS (hu1 hr)) (pe_ix ix_tup (pv 0) pe_int (fun _ _ => rfl)) (pv 1) (by rfl))))))), ?_⟩
  have key : isLetter tos d = (isTupN 2 d && isLetter tos d) := by
    cases d with
    | tuple ds =>
      match ds with
      | [] => rfl
      | [a] => rfl
      | [a, b] => rfl
      | a :: b :: c :: r =>
        show false = _
        exact (Bool.and_false _).symm
    | _ => rfl
  rw [key] at q
  refine Evl.s_ret (Evl.ev_andV (ev_tupN hd (Evl.ev_var rfl) Evl.ev_c) fun h2 => ?_) q
  obtain ⟨ds, rfl, hl⟩ := isTupN_iff (n := 2) h2
  match ds, hl with
  | [a, b], _ =>
    unfold Dq at hd
    obtain ⟨r, xs, rfl, _, ha, hx⟩ := hd
    obtain ⟨x, hx0, hdx⟩ := hx.get (i := 0) rfl
    obtain ⟨y, hy0, hdy⟩ := hx.get (i := 1) rfl
    refine Evl.ev_andV (ev_wordD hdx (fit_mem hf (by simp)) (ev_ixT (i := 0) (Evl.ev_var rfl) Evl.ev_c (Evl.st_of ha) hx0)) fun _ => ?_
    exact Evl.ev_op (ev_ixT (i := 1) (Evl.ev_var rfl) Evl.ev_c (Evl.st_of ha) hy0) (Evl.ev_var rfl) (rv_inS hdy hp)
theorem sc_letters : FnScope ["thing", "sends_to", "letter"] ["thing", "sends_to"] (defScope (top 26)) := ⟨rfl, rfl, rfl, by decide +kernel, rfl, by decide +kernel, by decide +kernel⟩
theorem ok_letters (F : Def K mg "has_letters_form" (top 26) ["thing", "sends_to"]) (B : Bl mg) (C2 : Cst2 K mg) (c_has_letter_form : Cal P w K mg base 2 "has_letter_form" (spV (RtoS K isLetter))) : Cal P w K mg base 3 "has_letters_form" (spV (RtoS K isLetters)) := by
  refine Cal.of F sc_letters (len_spV fun vs H z ⟨D, d, v, p, tos, h, _⟩ => by rw [h]; rfl) (fun f cdv A outer s H vs Q E hr h => ?_)
  obtain ⟨z, ⟨D, d, v, p, tos, rfl, hd, hf, hp, rfl⟩, q⟩ := h
  refine ⟨_, (pss_cons (ps_if (PW.pt (pw_or (pt_not (pt_val (pe_callB call_isi (by rfl) B.isinstance b_isinstance (pa_cons (pv 0) (pa_cons (pty B.tuple b_tuple) pa_nil))))) (pw_or1 (pt_cmpR op_gt (pe_callB call_len_seq (by rfl) B.len b_len (pa_cons (pv 0) pa_nil)) (pcst C2.MOST_LETTERS) (nomark _))))) (pss_one (ps_ret pe_bl)) pss_nil)
      (pss_one (ps_ret (pe_callB (cr_all rfl) (by rfl) B.all b_all (pa_cons (pe_lc (own := [("letter", 2)]) (g := gName 2) (tt := tYes) rfl sc_letters.nd (pi_tup (pv 0)) (blkOk_by (N := ["thing", "sends_to", "letter"]) (sc := defScope (top 26)) (by decide +kernel)) (fun _ _ _ _ _ => pg_name (i := 2) sc_letters.nd rfl (Or.inl rfl)) (fun _ _ _ _ _ => pts_nil)
        (fun _ _ _ _ _ => pcall c_has_letter_form hr (pa_cons (pv 2) (pa_cons (pv 1) pa_nil)))) pa_nil))))), ?_⟩
  refine Evl.q_when (b := !isTup d || (match d with | .tuple ls => decide (4 < ls.length) | _ => false)) ?_ (fun h1 H1 e1 => ?_) (fun h1 H1 e1 => ?_)
  · refine Evl.et_or (Evl.et_not (Evl.et_B (ev_isi (Evl.ev_var rfl) hd (kb_tup d)))) fun hs => ?_
    cases d with
    | tuple ls =>
      unfold Dq at hd
      obtain ⟨a, xs, rfl, _, ha, hx⟩ := hd
      have e3 : decide (4 < ls.length) = decide ((4 : Int) < (xs.length : Int)) := decide_eq_decide.mpr (by rw [hx.length]; omega)
      show EvT _ _ _ (decide (4 < ls.length))
      rw [e3]
      exact Evl.et_test (Evl.ev_op (ev_lenT (Evl.ev_var rfl) (Evl.st_of ha)) Evl.ev_c Evl.rv_I0)
    | _ => cases hs
  · have key : isLetters tos d = false := by
      cases d with
      | tuple ls =>
        have h2 : decide (4 < ls.length) = true := h1
        have h3 := of_decide_eq_true h2
        show (decide (ls.length ≤ 4) && _) = false
        rw [decide_eq_false (by omega), Bool.false_and]
      | _ => rfl
    rw [key] at q
    exact Evl.s_ret Evl.ev_c fun H2 e2 => q H2 (e1.trans e2)
  · cases d with
    | tuple ls =>
      have h2 : decide (4 < ls.length) = false := h1
      have h3 := of_decide_eq_false h2
      have key : isLetters tos (.tuple ls) = ls.all (isLetter tos) := by
        show (decide (ls.length ≤ 4) && _) = _
        rw [decide_eq_true (by omega), Bool.true_and]
      rw [key] at q
      unfold Dq at hd
      obtain ⟨a, xs, rfl, _, ha, hx⟩ := hd
      refine Evl.s_ret (ev_allD (isLetter tos) (Evl.ev_var rfl) (e1 _ _ ha) (DqL.same e1 hx) (fit_tup hf).1 (fun x => rfl) (fun d x H2 e2 hm hq => ?_)) fun H2 e2 => q H2 (e1.trans e2)
      exact ev_def (Evl.ea_cons (Evl.ev_var rfl) (Evl.ea_cons (Evl.ev_var rfl) Evl.ea_nil)) fun H3 e3 => ⟨D, d, x, p, tos, rfl, Dq.same e3 hq, fit_mem hf hm, Evl.ex_t e3 (Evl.ex_t e2 (Evl.ex_t e1 hp)), rfl⟩
    | _ => cases h1
end
end Al
set_option maxHeartbeats 4000000
namespace Al
open PySem PySem.Spec PyProof.Rows L2
/-! ### sets of texts: their members, walked in whatever order, sorted -/
def txt (e : Int × Value) : Str :=
  match e.2 with
  | .str z _ => z
  | _ => Str.empty
def Tx (w : World) (e : Int × Value) : Prop := ∃ (z : Str) (t : Tok), e.2 = Value.str z t ∧ e.1 = hashStr w z
structure TRec (w : World) (n : Nat) (zs : List Str) (es : Array (Int × Value)) (t : SetTable) : Prop where
  tx : ∀ e ∈ es.toList, Tx w e
  nd : (es.toList.map txt).Nodup
  mem : ∀ z, z ∈ zs ↔ z ∈ es.toList.map txt
  few : es.size ≤ n
  fits : t.fits es.size = true
  ris : Ris t.place.toList
  led : w.params.followText "set-order" = true ∨ t.led = true
/-- the set of the texts zs, of at most n members -/
def TSet (w : World) (h : Heap) (a : Addr) (n : Nat) (zs : List Str) : Prop := ∃ o es ep t, h.get? a = some o ∧ o.ExactSet ∧ o.data = .set es ep t ∧ TRec w n zs es t
section
variable {P : Program} {w : World} {h h' : Heap} {a : Addr} {n : Nat} {zs : List Str} {es : Array (Int × Value)} {t : SetTable}
theorem TSet.at (r : TSet w h a n zs) (k : ∀ o, h.get? a = some o → h'.get? a = some o) : TSet w h' a n zs := by
  obtain ⟨o, es, ep, t, ho, q⟩ := r
  exact ⟨o, es, ep, t, k o ho, q⟩
theorem tx_elems {l : List (Int × Value)} (g : ∀ e ∈ l, Tx w e) : ElemsOf (PySem.strKind P w) l := fun e he => by
  obtain ⟨z, t, q1, q2⟩ := g e he
  exact ⟨⟨z, by rw [q1]; exact strKind_is P w z t, q2⟩, by rw [q1] <;> rfl⟩
theorem tx_is {e : Int × Value} (g : Tx w e) (z : Str) : (PySem.strKind P w).is z e.2 = true ↔ txt e = z := by
  obtain ⟨y, t, q1, _⟩ := g
  unfold txt
  rw [q1]
  constructor
  · intro q
    have q2 : Value.isStrOf z (Value.str y t) = true := q
    obtain ⟨t', e'⟩ := Value.isStrOf_shape (x := z) (v := Value.str y t) q2
    exact (Value.str.inj e').1
  · intro q
    show (PySem.strKind P w).is z (.str y t) = true
    rw [show y = z from q]
    exact strKind_is P w z t
theorem tx_mem {l : List (Int × Value)} (g : ∀ e ∈ l, Tx w e) (z : Str) : z ∈ l.map txt ↔ ∃ e ∈ l, (PySem.strKind P w).is z e.2 = true := by
  rw [List.mem_map]
  exact ⟨fun ⟨e, he, q⟩ => ⟨e, he, (tx_is (g e he) z).2 q⟩, fun ⟨e, he, q⟩ => ⟨e, he, (tx_is (g e he) z).1 q⟩⟩
end
section
variable {P : Program} {w : World} {A : Around} {E : Value → Shared → Prop} {s : Shared} {a : Addr} {n : Nat} {zs : List Str}
theorem tset_lay {g : Bool → Sem Unit} (hg : ∀ (b : Bool) (s1 : Shared) (Q1 : Unit → Shared → Prop), Q1 () s1 → wpAny (model P w) A (g b) Q1 E s1) {o : Obj} {es es1 : Array (Int × Value)} {ep : Nat} {t t2 : SetTable}
    (ho : s.heap.get? a = some o) (hx : o.ExactSet) (hd : o.data = .set es ep t) (hb : n < scanBound) (r : TRec w n zs es1 t2) {wd : Bool} {R : Option Bool → Shared → Prop}
    (hR : ∀ h', Heap.SameBut a s.heap h' → TSet w h' a n zs → R (some true) { s with heap := h' }) :
    wpAny (model P w) A (do
        storeSet a es1 t2
        if (!wd && t2.tooFull) = true then do
            g (relayAll t2 es1 (SetTable.grown es1.size)).2.2
            storeSet a (relayAll t2 es1 (SetTable.grown es1.size)).1 (relayAll t2 es1 (SetTable.grown es1.size)).2.1
            pure (some true)
          else pure (some true)) R E s := by
  have hb1 : es1.size < scanBound := Nat.lt_of_le_of_lt r.few hb
  refine wpAny_bind (wpAny_storeSet_of ho hd ?_ (fits_of_scanBound hb1))
  have ho1 := store_at (es' := es1) (t' := t2) ho hd
  have sb1 := Heap.SameBut.update s.heap a (Obj.putSet es1 t2)
  split
  · have pm := relayAll_perm t2 es1 (SetTable.grown es1.size)
    have hf3 := relayAll_fits t2 es1 (SetTable.grown es1.size)
    have hr3 := relayAll_ris t2 es1 (SetTable.grown es1.size)
    have hl3 := relayAll_led t2 es1 (SetTable.grown es1.size)
    generalize relayAll t2 es1 (SetTable.grown es1.size) = Z at pm hf3 hr3 hl3 ⊢
    obtain ⟨es2, t3, gave⟩ := Z
    dsimp only at pm hf3 hr3 hl3 ⊢
    have same : es2.size = es1.size := by rw [← Array.length_toList, pm.length_eq, Array.length_toList]
    have hb2 : es2.size < scanBound := by rw [same]; exact hb1
    refine wpAny_bind (hg _ _ _ (wpAny_bind (wpAny_storeSet_of ho1 rfl ?_ (fits_of_scanBound hb2))))
    have ho2 := store_at (es' := es2) (t' := t3) ho1 rfl
    refine wpAny_pure (hR _ (sb1.trans (Heap.SameBut.update _ a _)) ⟨_, es2, _, t3, ho2, hx, rfl, ?_⟩)
    refine ⟨fun e he => r.tx e (pm.mem_iff.mp he), (pm.map txt).nodup_iff.mpr r.nd, fun z => (r.mem z).trans (pm.map txt).mem_iff.symm, by rw [same]; exact r.few, hf3, hr3, ?_⟩
    rw [hl3]
    exact r.led
  · exact wpAny_pure (hR _ sb1 ⟨_, es1, _, t2, ho1, hx, rfl, r⟩)
theorem tset_add {k : Str} {tk : Tok} {Q : Bool → Shared → Prop} (r0 : TSet w s.heap a n zs) (room : n + 1 < scanBound)
    (hQ : ∀ b h', Heap.SameBut a s.heap h' → TSet w h' a (n + 1) (zs ++ [k]) → Q b { s with heap := h' }) :
    wpAny (model P w) A (setAddHashed a (.str k tk) ((PySem.strKind P w).hash k)) Q E s := by
  obtain ⟨o, es, ep, t, ho, hx, hd, r⟩ := r0
  have hkey : (PySem.strKind P w).is k (.str k tk) = true := strKind_is P w k tk
  have hsc : (Value.str k tk).scannable = true := rfl
  have hb : es.size < scanBound := by have := r.few; omega
  have hel : ElemsOf (PySem.strKind P w) es.toList := tx_elems r.tx
  unfold setAddHashed setAddHashedIn
  refine wpAny_holding (wpAny_bind (wpAny_setState_of ho hd r.fits ?_))
  dsimp only
  rw [byScan_of hsc hb hel]
  simp only [↓reduceIte]
  unfold setAddByScan
  refine wpAny_bind (wpAny_bind (wpAny_rule (wpAny_bind (wpAny_setScan_of hkey ho hd r.fits hel ?_))))
  cases hfi : List.findIdx? (fun e => (PySem.strKind P w).is k e.2) es.toList with
  | some j =>
    dsimp only
    obtain ⟨hj, pj, _⟩ := List.findIdx?_eq_some_iff_getElem.mp hfi
    have hin : k ∈ zs := (r.mem k).2 ((tx_mem (P := P) (w := w) r.tx k).2 ⟨es.toList[j], List.getElem_mem hj, pj⟩)
    refine wpAny_pure (wpAny_pure (hQ false s.heap (Heap.SameBut.refl a s.heap) ⟨o, es, ep, t, ho, hx, hd, r.tx, r.nd, fun z => ?_, by have := r.few; omega, r.fits, r.ris, r.led⟩))
    rw [List.mem_append, ← r.mem z]
    exact ⟨fun q => q.elim id fun q1 => by rw [List.mem_singleton.mp q1]; exact hin, .inl⟩
  | none =>
    dsimp only
    have hnk : k ∉ es.toList.map txt := fun z => by
      obtain ⟨e, he, q⟩ := (tx_mem (P := P) (w := w) r.tx k).1 z
      have c := List.findIdx?_eq_none_iff.mp hfi e he
      rw [q] at c
      cases c
    have pm := layNew_perm t es ((PySem.strKind P w).hash k) (.str k tk)
    have hf1 := layNew_fits t es ((PySem.strKind P w).hash k) (.str k tk)
    have hr1 := layNew_ris t es ((PySem.strKind P w).hash k) (.str k tk) r.ris
    have hl1 := layNew_led t es ((PySem.strKind P w).hash k) (.str k tk)
    generalize layNew t es ((PySem.strKind P w).hash k) (.str k tk) = Z at pm hf1 hr1 hl1 ⊢
    obtain ⟨es1, t1, wd, gave⟩ := Z
    dsimp only at pm hf1 hr1 hl1 ⊢
    rw [Array.toList_push] at pm
    have pc : es1.toList.Perm (((PySem.strKind P w).hash k, Value.str k tk) :: es.toList) := pm.trans (List.perm_append_singleton _ _)
    have pk : (es1.toList.map txt).Perm (k :: es.toList.map txt) := pc.map txt
    have more : es1.size = es.size + 1 := by rw [← Array.length_toList, pc.length_eq, List.length_cons, Array.length_toList]
    have key : ∀ t' : SetTable, t'.fits es1.size = true → Ris t'.place.toList → t'.led = t1.led → TRec w (n + 1) (zs ++ [k]) es1 t' := fun t' f1 f2 f3 => by
      refine ⟨fun e he => ?_, pk.nodup_iff.mpr (List.nodup_cons.mpr ⟨hnk, r.nd⟩), fun z => ?_, by have := r.few; omega, f1, f2, by rw [f3, hl1]; exact r.led⟩
      · rcases List.mem_cons.mp (pc.mem_iff.mp he) with q | q
        · rw [q]
          exact ⟨k, tk, rfl, rfl⟩
        · exact r.tx e q
      · rw [pk.mem_iff, List.mem_cons, List.mem_append, List.mem_singleton, r.mem z]
        exact Or.comm
    have hgw : ∀ (b : Bool) {s1 : Shared} {Q1 : Unit → Shared → Prop}, Q1 () s1 → wpAny (model P w) A (match b with | true => rule "set.scan.the-table-gave-way" | false => pure ()) Q1 E s1 :=
      fun b s1 Q1 q => by cases b <;> first | exact wpAny_pure q | exact wpAny_rule q
    refine wpAny_bind (hgw _ ?_)
    split
    · refine wpAny_bind ?_
      rw [hashByValue_scannable 8 hsc]
      refine wpAny_pure ?_
      refine tset_lay ?_ ho hx hd room (key _ ?_ ?_ ?_) ?_
      · intro b s1 Q1 q
        cases b <;> first | exact wpAny_pure q | exact wpAny_rule q
      · first | (split <;> first | exact hf1 | exact SetTable.fits_plain_off hf1) | exact hf1
      · first | (split <;> exact hr1) | exact hr1
      · first | (split <;> rfl) | rfl
      · intro h' sb q
        dsimp only
        exact wpAny_pure (hQ true h' sb q)
    · refine wpAny_bind (wpAny_pure ?_)
      simp only [↓reduceIte]
      refine tset_lay ?_ ho hx hd room (key _ hf1 hr1 rfl) ?_
      · intro b s1 Q1 q
        cases b <;> first | exact wpAny_pure q | exact wpAny_rule q
      · intro h' sb q
        dsimp only
        exact wpAny_pure (hQ true h' sb q)
end
end Al
set_option maxHeartbeats 4000000
namespace Al
open PySem PySem.Spec PyProof.Rows L2
section
variable {prog : Program} {w : World} {A : Around} {R : Result → Shared → Prop} {I : Addr} {fp wr : List Addr} {G : Array GenState → Array GenState → Prop} {n : Nat} {Pi : Nat → Value → Prop} {St : Nat → Shared → Prop}
theorem texts_loop (W : WalksS prog w A.in1 I fp wr G n Pi St) (S : Addr) (off : S ∉ fp) (xs : List Str) (hn : n + 1 < scanBound) (hlen : xs.length = n) (val : ∀ i v, Pi i v → ∃ z t, xs[i]? = some z ∧ v = .str z t) :
    ∀ (k i : Nat) (s : Shared), n - i = k → i ≤ n → St i s → TSet w s.heap S i (xs.take i) → (∀ s', Moved (S :: wr) G s s' → TSet w s'.heap S n xs → R (.ok (.ret .none)) s') →
      codeAny (model prog w) A (.builtin "set.update.loop" ⟨[.ref S, .ref I], []⟩) R s := by
  have offw : S ∉ wr := fun z => off (W.sub _ z)
  have sub : ∀ b ∈ wr, b ∈ S :: wr := fun b z => List.mem_cons_of_mem _ z
  intro k
  induction k with
  | zero =>
    intro i s hk hi st r fin
    have e : i = n := by omega
    subst e
    refine codeAny_builtin PyProof.Rows.F.entry_set_update_loop (by
      rw [Around.under_plainId PyProof.Rows.F.plain_set_update_loop _]
      show wpAny _ A.in1 (pyNext (.ref I) >>= _) _ _ s
      refine wpAny_bind (W.done s _ _ st fun s' mv => ?_)
      show wpAny _ A.in1 (ret Value.none) _ _ s'
      refine wpAny_pure (fin s' (mv.mono sub) ?_)
      have q := r.at (h' := s'.heap) fun o ho => mv.heap S o offw ho
      rw [List.take_of_length_le (by omega)] at q
      exact q)
  | succ k ih =>
    intro i s hk hi st r fin
    have lt : i < n := by omega
    refine codeAny_builtin PyProof.Rows.F.entry_set_update_loop (by
      rw [Around.under_plainId PyProof.Rows.F.plain_set_update_loop _]
      show wpAny _ A.in1 (pyNext (.ref I) >>= _) _ _ s
      refine wpAny_bind (W.item i s _ _ lt st fun v s' pv st' mv => ?_)
      obtain ⟨z, t, hz, rfl⟩ := val i v pv
      have r' := r.at (h' := s'.heap) fun o ho => mv.heap S o offw ho
      show wpAny _ A.in1 (holding [Value.str z t] (setAdd S (.str z t)) >>= _) _ _ s'
      refine wpAny_bind (wpAny_holding ?_)
      unfold setAdd
      refine wpAny_holding (wpAny_bind ((PySem.strKind prog w).pyHash (k := z) (strKind_is _ _ _ _) ?_))
      refine tset_add (s := { s' with toks := s'.toks + 1 }) r' (by omega) fun b h' sb r2 => ?_
      have et : xs.take i ++ [z] = xs.take (i + 1) := by rw [List.take_add_one, hz] <;> rfl
      rw [et] at r2
      refine wpAny_pure ⟨plainId_quiet PyProof.Rows.F.plain_set_update_loop _, ih (i + 1) _ (by omega) lt (W.frame _ s' _ _ st' (Nat.le_succ _) fun b hb o e => ?_) r2 fun s2 mv2 r3 => ?_⟩
      · rw [sb.2 b fun z => off (by rw [← z]; exact hb)]
        exact e
      · refine fin s2 (Moved.trans W.gtrans ((mv.mono sub).then_heap (Nat.le_succ _) fun b o hb e => ?_) mv2) r3
        rw [sb.2 b fun z => hb (by rw [z]; exact List.mem_cons_self)]
        exact e)
end
section
variable {prog : Program} {w : World} {A : Around} {E : Value → Shared → Prop} {s : Shared}
theorem str_at : ∀ {us : List Value} {xs : List Str}, StrsAre us xs → ∀ (i : Nat) (v : Value), us[i]? = some v → ∃ z t, xs[i]? = some z ∧ v = .str z t
  | _, _, .nil, i, v, h => by simp at h
  | _, _, .cons n t hr, 0, v, h => by
    have e : _ = v := Option.some.inj h
    exact ⟨n, t, rfl, e.symm⟩
  | _, _, .cons n t hr, i + 1, v, h => str_at hr i v (by simpa using h)
abbrev freshSet (w : World) (h : Heap) : Heap := h.push { cls := .type "set", dict := none, data := .set #[] 0 (.fresh 0 0 (!w.params.followText "set-order")) }
theorem set_born {x : Value} {Q1 : Value → Shared → Prop} (h : Q1 (.ref s.heap.objs.size) { s with heap := freshSet w s.heap }) : codeAny (model prog w) A (.call (.builtin "set.__new__") ⟨[.type "set", x], []⟩) (wants Q1 E) s := by
  refine codeAny_of_tree (by
    show wpAny _ A.in1 (do checkBuiltinCall "set.__new__" ⟨[.type "set", x], []⟩; again (.builtin "set.__new__" ⟨[.type "set", x], []⟩)) _ _ s
    refine wpAny_bind (wpAny_of_eq (F.newCall_set_1 x) (wpAny_pure ⟨plainId_quiet F.plain_set_new _, codeAny_builtin F.entry_set_new ?_⟩))
    rw [Around.under_plainId F.plain_set_new _]
    unfold Builtin.«set.__new__» Builtin.Frozenset.newClass
    have self := sub_set_self
    obtain ⟨hp, g, d, tk, os⟩ := s
    dsimp only
    wp_walk
    refine wpAny_askSetting (wpAny_pure (by
      dsimp only
      simp only [newObj]
      exact wpAny_bind (wpAny_alloc (wpAny_pure (wpAny_pure h))))))
theorem tset_fresh {h : Heap} (w : World) : TSet w (freshSet w h) h.objs.size 0 [] := by
  refine ⟨_, #[], 0, _, Heap.get?_push_size _ rfl, ⟨rfl, rfl, rfl⟩, rfl, (fun e he => by simp at he), by simp, fun z => by simp, Nat.le_refl _, by rfl, List.Pairwise.nil, ?_⟩
  show _ ∨ (!w.params.followText "set-order") = true
  cases w.params.followText "set-order" <;> simp
set_option maxHeartbeats 8000000 in
theorem call_set_texts {l : Addr} {items : Array Value} {xs : List Str} {Q : Value → Shared → Prop} (hh : A.handled = none) (isl : s.heap.IsList l items) (hi : PyProof.Rows.StrsAre items.toList xs) (few : xs.length + 1 < scanBound)
    (fin : ∀ (h' : Heap) (tk : Nat), TSet w h' s.heap.objs.size xs.length xs → (∀ b o, b < s.heap.objs.size → s.heap.get? b = some o → h'.get? b = some o) → Q (.ref s.heap.objs.size) { s with heap := h', toks := tk }) :
    wpAny (model prog w) A (call (.type "set") [.ref l]) Q E s := by
  obtain ⟨cc, tl, hmro⟩ := PySem.F.called_set.mro
  have made := PySem.F.called_set.made
  have subs := PySem.F.called_set.sub
  refine wpAny_call (codeAny_of_tree ?_)
  show wpAny _ _ (callAny (.type "set") _) _ _ _
  refine wpAny_pure ⟨Code.quiet_builtin _ (by decide +kernel), codeAny_builtin PySem.F.entry_type_call ?_⟩
  rw [Around.under_plain (weight_type_call_type "set" [.ref l] []) rfl]
  have f1 := PySem.F.called_set.notType
  have f2 := PySem.F.called_set.canCreate
  have f3 := PySem.F.typeCall_set_1 (.ref l)
  (repeat (any_goals (first | assumption | wp_step))); skip
  refine codeAny_mono (set_born (E := E) (Q1 := fun obj s1 => obj = .ref s.heap.objs.size ∧ s1 = { s with heap := freshSet w s.heap }) ⟨rfl, rfl⟩) fun r s1 hr => ?_
  cases r with
  | error e => exact hr
  | ok fl =>
    cases fl with
    | ret obj =>
      obtain ⟨rfl, rfl⟩ := hr
      have atS : (freshSet w s.heap).get? s.heap.objs.size = some { cls := .type "set", dict := none, data := .set #[] 0 (.fresh 0 0 (!w.params.followText "set-order")) } := Heap.get?_push_size _ rfl
      have tyS : Shared.TypeIs { s with heap := freshSet w s.heap } (.ref s.heap.objs.size) "set" := ⟨_, atS, rfl⟩
      have g1 := PySem.F.called_set.init.lookup
      have g2 := PySem.F.called_set.init.bind (.ref s.heap.objs.size)
      (repeat (any_goals (first | assumption | wp_step))); skip
      refine codeAny_mono (codeAny_call_builtin (R := wants (fun r s2 => r = .none ∧ ∃ h' tk, s2 = { s with heap := h', toks := tk } ∧ TSet w h' s.heap.objs.size xs.length xs ∧ (∀ b o, b < s.heap.objs.size → s.heap.get? b = some o → h'.get? b = some o)) E)
        PySem.F.called_set.init.plain PySem.F.entry_set_init (check_set_init_1 tyS ?_)) fun r2 s2 hr2 => ?_
      · obtain ⟨ol, hol, hcl, nl, hdl⟩ := isl
        obtain ⟨ocls, odict, odata, oslots⟩ := ol
        simp only at hcl hdl
        subst hcl hdl
        have hol1 : (freshSet w s.heap).get? l = some { cls := .type "list", dict := odict, data := .seq items nl, slots := oslots } := Heap.get?_push_of_some _ hol
        have s1 := PySem.F.sub_list_set
        have s2 := PySem.F.sub_list_frozenset
        have s3 : (Value.type "list" == Value.type "dict") = false := by decide
        have isl1 : (freshSet w s.heap).IsList l items := ⟨_, hol1, rfl, nl, rfl⟩
        unfold Builtin.«set.__init__» noKeywords Builtin.Frozenset.updateFrom
        generalize hPI : pyIter = PI
        wp_walk
        subst hPI
        refine wpAny_pyIter_list isl1 (wpAny_bind (wpAny_runValue ?_))
        have lS : l < s.heap.objs.size := Heap.lt_size hol
        have hh3 : A.in1.in1.in1.handled = none := by simp [hh]
        have szF : (freshSet w s.heap).objs.size = s.heap.objs.size + 1 := size_push' _ _
        have neI : l ≠ (freshSet w s.heap).objs.size := by rw [szF]; exact Nat.ne_of_lt (Nat.lt_succ_of_lt lS)
        have offS : s.heap.objs.size ∉ [(freshSet w s.heap).objs.size, l] := by
          rw [szF]
          simp only [List.mem_cons, List.not_mem_nil, or_false, not_or]
          exact ⟨Nat.ne_of_lt (Nat.lt_succ_self _), Nat.ne_of_gt lS⟩
        have len : xs.length = items.size := by rw [← StrsAre.len_eq hi, Array.length_toList]
        have val : ∀ (i : Nat) (v : Value), items[i]? = some v → ∃ z t, xs[i]? = some z ∧ v = .str z t := fun i v hv => str_at hi i v (by rw [Array.getElem?_toList]; exact hv)
        refine texts_loop ((Walks.list hh3 _ l neI items).toS) s.heap.objs.size offS xs (by rw [← len]; exact few) len val (items.size - 0) 0 _ (by omega) (Nat.zero_le _) ⟨⟨_, Heap.get?_push_size _ rfl, rfl, rfl⟩, (isl1.push _)⟩ ?st ?fin
        case st => exact (tset_fresh w).at fun o ho => Heap.get?_push_of_some _ ho
        case fin =>
          intro s' mv r
          obtain ⟨h', g', d', tk', os'⟩ := s'
          have eg : g' = s.gens := mv.gens
          have ed : d' = s.drawn := mv.drawn
          have eo : os' = s.os := mv.os
          subst eg ed eo
          show wpAny _ _ _ _ _ _
          refine wpAny_pure ?_
          show wpAny _ _ (ret Value.none) _ _ _
          rw [← len] at r
          refine wpAny_pure ⟨rfl, h', tk', rfl, r, fun b o hb e => mv.heap b o ?_ (Heap.get?_push_of_some _ (Heap.get?_push_of_some _ e))⟩
          simp only [List.mem_cons, List.not_mem_nil, or_false, not_or]
          exact ⟨Nat.ne_of_lt hb, by rw [szF]; exact Nat.ne_of_lt (Nat.lt_succ_of_lt hb)⟩
      · cases r2 with
        | error e => exact hr2
        | ok fl2 =>
          cases fl2 with
          | ret r =>
            obtain ⟨rfl, h', tk, rfl, hS', hk'⟩ := hr2
            (repeat (any_goals (first | assumption | wp_step))); skip
            exact fin _ _ hS' hk'
          | _ => exact hr2.elim
    | _ => exact hr.elim
end
end Al
set_option maxHeartbeats 4000000
namespace Al
open PySem PySem.Spec PyProof.Rows L2
/-- the ascending texts of a list -/
structure IsSrt (zs ys : List Str) : Prop where
  nd : ys.Nodup
  up : sortedS ys = true
  mem : ∀ z, z ∈ ys ↔ z ∈ zs
theorem texts_of : ∀ (l : List Value), (∀ v ∈ l, ∃ z t, v = Value.str z t) → StrsAre l (l.map strOf)
  | [], _ => .nil
  | v :: l, h => by
    obtain ⟨z, t, rfl⟩ := h v List.mem_cons_self
    exact .cons z t (texts_of l fun u hu => h u (List.mem_cons_of_mem _ hu))
section
variable {P : Program} {w : World} {A : Around} {E : Value → Shared → Prop} {s : Shared} {a : Addr} {n : Nat} {zs : List Str}
theorem sorted_texts {Q : Value → Shared → Prop} (r0 : TSet w s.heap a n zs) (hh : A.handled = none) (hn : n < scanBound)
    (fin : ∀ s' p (out : Array Value) (c : Nat) (ys : List Str), (∀ b o, s.heap.get? b = some o → s'.heap.get? b = some o) → s'.gens = s.gens → s'.os = s.os → s.heap.objs.size ≤ p →
      s'.heap.get? p = some (seqObj "list" out c) → StrsAre out.toList ys → IsSrt zs ys → ys.length ≤ n → Q (.ref p) s') : wpAny (model P w) A (call (.builtin "sorted") [.ref a]) Q E s := by
  obtain ⟨o, es, ep, t, ho, hx, hd, r⟩ := r0
  have hb : es.size < scanBound := Nat.lt_of_le_of_lt r.few hn
  refine Calls.call_function_entry kind_sorted plain_sorted entry_sorted (args_sorted1 _) (by
    unfold Builtin.«sorted»
    refine wpAny_bind (m := checkCount "sorted" 1 1 _) (wpAny_pure ?_)
    refine wpAny_bind (collect_set (A := A.in1) hh ⟨o, ho, hx.1, hd⟩ r.fits hb r.ris r.led fun s1 vs k1 hz g1 o1 pm => ?_)
    have lv : vs.length = es.size := by rw [pm.length_eq, List.length_map, Array.length_toList]
    have small : vs.length ≤ sizeLine := by
      have q : scanBound ≤ sizeLine := by decide
      omega
    have hT : StrsAre vs (vs.map strOf) := texts_of vs fun v hv => by
      obtain ⟨e, he, q⟩ := List.mem_map.mp (pm.mem_iff.mp hv)
      obtain ⟨z, t, h1, _⟩ := r.tx e he
      exact ⟨z, t, by rw [← q]; exact h1⟩
    have pk : (vs.map strOf).Perm (es.toList.map txt) := by
      have q := pm.map strOf
      rw [List.map_map] at q
      have e : es.toList.map (strOf ∘ (·.2)) = es.toList.map txt := List.map_congr_left fun e he => by
        obtain ⟨z, t, h1, _⟩ := r.tx e he
        show strOf e.2 = txt e
        unfold txt
        rw [h1]
        rfl
      rw [← e]
      exact q
    refine wpAny_bind (wpAny_newList ?_ small)
    have hoL : (s1.heap.push (seqObj "list" vs.toArray 0)).get? s1.heap.objs.size = some (seqObj "list" vs.toArray 0) := Heap.get?_push_size _ rfl
    refine wpAny_bind (wpAny_holding (wpAny_call_entry slot_list_sort ⟨_, hoL, rfl⟩ entry_list_sort
      (list_sort_treeKAny strKind_oneLt hoL hT.keysOf (fun v1 v2 rest e => keyKind_strs (by rw [← e]; exact hT)) small fun st' hp hs => ?_) (args_list_sort _)))
    obtain ⟨ys, y1, y2, y3⟩ := sorted_out_str hT hp hs
    obtain ⟨c, hc⟩ := sortedHeap_at (vs := vs) (out := (arrOf st').map (·.2)) hoL
    have pn : ys.Perm (es.toList.map txt) := y2.trans pk
    refine ⟨_, rfl, wpAny_pure ⟨_, rfl, fin _ s1.heap.objs.size _ c ys (fun b u e => ?_) g1 o1 hz hc y1 ⟨pn.nodup_iff.mpr r.nd, y3, fun z => by rw [pn.mem_iff, ← r.mem z]⟩ ?_⟩⟩
    · have q := k1 b u e
      have lt := Heap.lt_size q
      show (sortedHeap (s1.heap.push (seqObj "list" vs.toArray 0)) s1.heap.objs.size vs _).get? b = some u
      rw [sortedHeap_old (Nat.ne_of_lt lt) (by rw [size_push']; exact Nat.lt_succ_of_lt lt)]
      exact Heap.get?_push_of_some _ q
    · rw [pn.length_eq, List.length_map, Array.length_toList]
      exact r.few)
end
end Al
set_option maxHeartbeats 4000000
namespace Al
open PySem PySem.Spec PyProof.Rows L2
open Evl (Ex Ev EvT EvA EvL EvU SpV RV RC RCL)
def SetTx (w : World) (a : Addr) (n : Nat) (zs : List Str) : HO := .ext fun h => TSet w h a n zs
section
variable {X : Cx}
theorem setTx_new {w : World} {P : Program} {H : Hp} {h : Heap} {a : Addr} {n : Nat} {zs : List Str} (r : TSet w h a n zs) : ObjOk P w H h a (SetTx w a n zs) := by
  have ⟨o, _, _, _, ho, _⟩ := r
  exact ⟨r, ⟨o, ho⟩, fun h1 h2 p k => p.at k⟩
theorem strsAre_of : ∀ {zs : List Str} {us : List Value}, Vals (zs.map V.str) us → StrsAre us zs
  | [], _, h => by cases h; exact .nil
  | z :: zs, _, h => by
    cases h with
    | cons r t =>
      obtain ⟨k, rfl⟩ := r
      exact .cons z k (strsAre_of t)
/-- set(zs), zs a list of texts | sorted(that) -/
def rSetTx (K : PySem.W.Frag) (w : World) : List V → Hp → VK → Prop := fun vs H Q => ∃ (l : Addr) (zs : List Str), vs = [.ref l] ∧ SqL K H l (zs.map V.str) ∧ zs.length + 1 < scanBound ∧ ∀ p, H p = none → Q (.ref p) (upd H p (SetTx w p zs.length zs))
def rSortTx (w : World) : List V → Hp → VK → Prop := fun vs H Q => ∃ (a : Addr) (n : Nat) (zs : List Str), vs = [.ref a] ∧ H a = some (SetTx w a n zs) ∧ n < scanBound ∧ ∀ ys p, IsSrt zs ys → ys.length ≤ n → H p = none → Q (.ref p) (upd H p (.lst (ys.map V.str)))
theorem cr_setTx (hc : X.calm = true) : CallR X (.type "set") (rSetTx X.K X.w) := by
  intro pins s σ H vs us Q I r h
  obtain ⟨l, zs, rfl, hq, few, q⟩ := h
  rw [Vals.ref1 r]
  obtain ⟨its, rv, pl, hz⟩ := I.list hq
  refine call_set_texts (I.ok.hd hc) pl.isList (by simpa using strsAre_of rv) few fun h' tk hS hk => ?_
  exact ⟨.ref s.heap.objs.size, _, I.laid (t' := tk) (fun b u e => hk b u (Heap.lt_size e) e) (Nat.le_refl _) (setTx_new hS), rfl, q _ (I.hok.fresh (Nat.le_refl _))⟩
theorem cr_sortTx (hc : X.calm = true) : CallR X (.builtin "sorted") (rSortTx X.w) := by
  intro pins s σ H vs us Q I r h
  obtain ⟨a, n, zs, rfl, ha, hn, q⟩ := h
  have r0 : TSet X.w s.heap a n zs := (I.hok a _ ha).1
  rw [Vals.ref1 r]
  refine sorted_texts r0 (I.ok.hd hc) hn fun s' p out c ys k g o hp hg hi hs hl => ?_
  have small : (ys.map V.str).length ≤ sizeLine := by
    have q1 : scanBound ≤ sizeLine := by decide
    rw [List.length_map]
    omega
  have fresh : H p = none := I.hok.fresh hp
  have J : Inv X pins σ (upd H p (.lst (ys.map V.str))) { s with heap := s'.heap, gens := s'.gens, drawn := s'.drawn, toks := s'.toks } :=
    I.call (ch := []) (Un.laid k hp fresh) (I.hok.laid k hp ⟨small, out.toList, c, vals_of_strs hi, hg⟩) (by rw [g]; exact I.bare) (fun _ z => nomatch z)
  have e : s' = { s with heap := s'.heap, gens := s'.gens, drawn := s'.drawn, toks := s'.toks } := by
    cases s'; cases s; cases o; rfl
  rw [e]
  exact ⟨.ref p, _, J, rfl, q ys p hs hl fresh⟩
end
/-! ### the ascending texts are one -/
theorem ltCps_irr (a : List Nat) : ltCps a a = false := by rw [ltCps_eq]; simp
theorem up_pair : ∀ {ys : List Str}, sortedS ys = true → ys.Pairwise fun x y => ltCps y.cps.toList x.cps.toList = false
  | [], _ => List.Pairwise.nil
  | [x], _ => List.pairwise_singleton _ _
  | x :: y :: r, h => by
    have h' : (!ltCps y.cps.toList x.cps.toList && risingS y r) = true := h
    rw [Bool.and_eq_true, Bool.not_eq_true'] at h'
    have ih := up_pair (ys := y :: r) h'.2
    refine List.pairwise_cons.mpr ⟨fun z hz => ?_, ih⟩
    rcases List.mem_cons.mp hz with e | hz
    · rw [e]; exact h'.1
    · have q := (List.pairwise_cons.mp ih).1 z hz
      have h1 := h'.1
      rw [ltCps_eq] at q h1 ⊢
      have q' : ¬ z.cps.toList < y.cps.toList := of_decide_eq_false q
      have h1' : ¬ y.cps.toList < x.cps.toList := of_decide_eq_false h1
      exact decide_eq_false fun z1 => by
        by_cases c : z.cps.toList < y.cps.toList
        · exact q' c
        · exact h1' (List.lt_of_le_of_lt (List.not_lt.mp c) z1)
theorem srt_uniq : ∀ {ys us : List Str}, ys.Nodup → us.Nodup → sortedS ys = true → sortedS us = true → (∀ z, z ∈ ys ↔ z ∈ us) → ys = us
  | [], [], _, _, _, _, _ => rfl
  | [], u :: us, _, _, _, _, h => absurd ((h u).2 List.mem_cons_self) (by simp)
  | y :: ys, [], _, _, _, _, h => absurd ((h y).1 List.mem_cons_self) (by simp)
  | y :: ys, u :: us, n1, n2, s1, s2, h => by
    have p1 := List.pairwise_cons.mp (up_pair s1)
    have p2 := List.pairwise_cons.mp (up_pair s2)
    have d1 := List.nodup_cons.mp n1
    have d2 := List.nodup_cons.mp n2
    have e : y = u := by
      rcases List.mem_cons.mp ((h y).1 List.mem_cons_self) with e | m1
      · exact e
      · rcases List.mem_cons.mp ((h u).2 List.mem_cons_self) with e | m2
        · exact e.symm
        · have a1 := p1.1 u m2
          have a2 := p2.1 y m1
          rw [ltCps_eq] at a1 a2
          have b1 : ¬ u.cps.toList < y.cps.toList := of_decide_eq_false a1
          have b2 : ¬ y.cps.toList < u.cps.toList := of_decide_eq_false a2
          have e3 : y.cps.toList = u.cps.toList := by
            exact List.le_antisymm (List.not_lt.mp b1) (List.not_lt.mp b2)
          exact ext_toList e3
    subst e
    have t1 : sortedS ys = true := by
      cases ys with
      | nil => rfl
      | cons a r =>
        have q : (!ltCps a.cps.toList y.cps.toList && risingS a r) = true := s1
        rw [Bool.and_eq_true] at q
        exact q.2
    have t2 : sortedS us = true := by
      cases us with
      | nil => rfl
      | cons a r =>
        have q : (!ltCps a.cps.toList y.cps.toList && risingS a r) = true := s2
        rw [Bool.and_eq_true] at q
        exact q.2
    rw [srt_uniq d1.2 d2.2 t1 t2 fun z => ?_]
    constructor
    · intro hz
      rcases List.mem_cons.mp ((h z).1 (List.mem_cons_of_mem _ hz)) with e | m
      · rw [e] at hz; exact absurd hz d1.1
      · exact m
    · intro hz
      rcases List.mem_cons.mp ((h z).2 (List.mem_cons_of_mem _ hz)) with e | m
      · rw [e] at hz; exact absurd hz d2.1
      · exact m
theorem IsSrt.uniq {zs ys us : List Str} (h1 : IsSrt zs ys) (h2 : IsSrt zs us) : ys = us := srt_uniq h1.nd h2.nd h1.up h2.up fun z => (h1.mem z).trans (h2.mem z).symm
open Classical in
/-- THE ascending texts of a list (where there are such) -/
noncomputable def srt (zs : List Str) : List Str := if h : ∃ ys, IsSrt zs ys then Classical.choose h else []
theorem srt_of {zs ys : List Str} (h : IsSrt zs ys) : srt zs = ys := by
  have e : ∃ ys, IsSrt zs ys := ⟨ys, h⟩
  unfold srt
  rw [dif_pos e]
  exact (Classical.choose_spec e).uniq h
/-! ### ascending(items) -/
def spAsc (K : PySem.W.Frag) : Sp := fun vs H Q _ => ∃ (l : Addr) (zs : List Str), vs = [.ref l] ∧ SqL K H l (zs.map V.str) ∧ zs.length ≤ 4000 ∧
  ∀ r H', Ex H H' → H r = none → IsSrt zs (srt zs) → (srt zs).length ≤ zs.length → H' r = some (.tup ((srt zs).map V.str)) → Q (.ref r) H'
section
variable {P : Program} {w : World} {K : PySem.W.Frag} {mg : Str → Option Value} {base : Heap}
theorem sc_ascending : FnScope ["items"] ["items"] (defScope (top 10)) := ⟨rfl, rfl, rfl, by decide +kernel, rfl, by decide +kernel, by decide +kernel⟩
theorem ok_ascending (F : Def K mg "ascending" (top 10) ["items"]) (B : Bl mg) : Cal P w K mg base 1 "ascending" (spAsc K) := by
  refine Cal.of F sc_ascending (fun vs H Q E ⟨l, zs, e, _⟩ => by rw [e]; rfl) (fun f cdv A outer s H vs Q E hr h => ?_)
  obtain ⟨l, zs, rfl, hq, few, q⟩ := h
  refine ⟨_, (pss_one (ps_ret (pe_tupleOf (by rfl) B.tuple (pe_callB (cr_sortTx rfl) (by rfl) B.sorted b_sorted (pa_cons (pe_callTy (cr_setTx rfl) (by rfl) B.set b_set (pa_cons (pv 0) pa_nil)) pa_nil))))), ?_⟩
  refine ⟨_, rfl, l, zs, rfl, hq, Nat.lt_of_le_of_lt (Nat.succ_le_succ few) (by decide), fun a ha => ?_⟩
  refine ⟨a, zs.length, zs, rfl, upd_same, Nat.lt_of_le_of_lt few (by decide), fun ys p hs hl hp => ?_⟩
  refine .inl ⟨p, ys.map V.str, rfl, .inl (.inl upd_same), fun r hr' => ?_⟩
  have e1 : Ex H (upd H a (SetTx w a zs.length zs)) := Ex.new ha
  have e2 := e1.trans (Ex.new (o := .lst (ys.map V.str)) hp)
  have e3 := e2.trans (Ex.new (o := .tup (ys.map V.str)) hr')
  have es := srt_of hs
  refine q r _ e3 (Evl.fresh_back e2 hr') (by rw [es]; exact hs) (by rw [es]; exact hl) ?_
  rw [es]
  exact upd_same
end
end Al
namespace Al
open PySem PySem.Spec PyProof.Rows L2
open Evl (Ex Ev EvT EvA EvL EvU SpV RV RC RCL)
theorem DqL.two {D : Ban} {H : Hp} {a b : PyData} {xs : List V} (h : DqL D H [a, b] xs) : ∃ x y, xs = [x, y] ∧ Dq D H a x ∧ Dq D H b y := by
  unfold DqL at h
  obtain ⟨x, r, rfl, h1, h2⟩ := h
  unfold DqL at h2
  obtain ⟨y, r2, rfl, h3, h4⟩ := h2
  unfold DqL at h4
  subst h4
  exact ⟨x, y, rfl, h1, h3⟩
theorem DqL.five {D : Ban} {H : Hp} {a b c d e : PyData} {xs : List V} (h : DqL D H [a, b, c, d, e] xs) : ∃ x y z u v, xs = [x, y, z, u, v] ∧ Dq D H a x ∧ Dq D H b y ∧ Dq D H c z ∧ Dq D H d u ∧ Dq D H e v := by
  unfold DqL at h
  obtain ⟨x, r, rfl, h1, h2⟩ := h
  unfold DqL at h2
  obtain ⟨y, r2, rfl, h3, h4⟩ := h2
  unfold DqL at h4
  obtain ⟨z, r3, rfl, h5, h6⟩ := h4
  obtain ⟨u, v, rfl, h7, h8⟩ := DqL.two h6
  exact ⟨x, y, z, u, v, rfl, h1, h3, h5, h7, h8⟩
theorem Dq.tup {D : Ban} {H : Hp} {ds : List PyData} {v : V} (h : Dq D H (.tuple ds) v) : ∃ a xs, v = .ref a ∧ ¬ D a ∧ H a = some (.tup xs) ∧ DqL D H ds xs := by
  unfold Dq at h
  exact h
theorem isRule_off {tos : List Str} {n : Int} {d : PyData} (h : isTupN 5 d = false) : isRule tos n d = false := by
  cases d with
  | tuple ds =>
    match ds with
    | [] => rfl
    | [_] => rfl
    | [_, _] => rfl
    | [_, _, _] => rfl
    | [_, _, _, _] => rfl
    | [_, _, _, _, _] => cases h
    | _ :: _ :: _ :: _ :: _ :: _ :: _ => rfl
  | _ => rfl
theorem isState_off {tos : List Str} {n : Int} {d : PyData} (h : isTupN 2 d = false) : isState tos n d = false := by
  cases d with
  | tuple ds =>
    match ds with
    | [] => rfl
    | [_] => rfl
    | [_, _] => cases h
    | _ :: b :: _ :: _ => cases b <;> rfl
  | _ => rfl
/-- a tuple of more than n items -/
def longer (n : Nat) : PyData → Bool
  | .tuple rs => decide (n < rs.length)
  | _ => false
section
variable {P : Program} {w : World} {K : PySem.W.Frag} {mg : Str → Option Value} {base : Heap}
theorem sc_rule : FnScope ["thing", "many", "sends_to", "cause", "mark", "forced", "letters", "goal"] ["thing", "many", "sends_to"] (defScope (top 23)) := ⟨rfl, rfl, rfl, by decide +kernel, rfl, by decide +kernel, by decide +kernel⟩
theorem ok_rule (F : Def K mg "has_rule_form" (top 23) ["thing", "many", "sends_to"]) (c_is_tuple_of : Cal P w K mg base 1 "is_tuple_of" (spV RT)) (c_has_cause_form : Cal P w K mg base 2 "has_cause_form" (spV (R1f isCause)))
    (c_has_marking_form : Cal P w K mg base 2 "has_marking_form" (spV (R2f isMarking))) (c_has_letters_form : Cal P w K mg base 3 "has_letters_form" (spV (RtoS K isLetters))) (c_is_integer_in : Cal P w K mg base 2 "is_integer_in" (spV R3)) :
    Cal P w K mg base 4 "has_rule_form" (spV (RmtS K isRule)) := by
  refine Cal.of F sc_rule (len_spV fun vs H z ⟨D, d, v, n, p, tos, h, _⟩ => by rw [h]; rfl) (fun f cdv A outer s H vs Q E hr h => ?_)
  obtain ⟨z, ⟨D, d, v, n, p, tos, rfl, hd, hf, hp, rfl⟩, q⟩ := h
  refine ⟨_, (pss_cons (ps_if (pt_not (pt_val (pcall c_is_tuple_of hr (pa_cons (pv 0) (pa_cons pe_int pa_nil))))) (pss_one (ps_ret pe_bl)) pss_nil)
      (pss_cons (ps_asg (pv 0) (pg_tup rfl (pgs_cons (pg_name (i := 3) sc_rule.nd rfl (.inl rfl)) (pgs_cons (pg_name (i := 4) sc_rule.nd rfl (.inl rfl)) (pgs_cons (pg_name (i := 5) sc_rule.nd rfl (.inl rfl)) (pgs_cons (pg_name (i := 6) sc_rule.nd rfl (.inl rfl)) (pgs_cons (pg_name (i := 7) sc_rule.nd rfl (.inl rfl)) pgs_nil)))))))
      (pss_one (ps_ret (pe_and (pcall c_has_cause_form hr (pa_cons (pv 3) pa_nil)) (pe_and (pcall c_has_marking_form hr (pa_cons (pv 4) (pa_cons (pv 5) pa_nil))) (pe_and (pcall c_has_letters_form hr (pa_cons (pv 6) (pa_cons (pv 2) pa_nil))) (pe_one (pcall c_is_integer_in hr (pa_cons (pv 7) (pa_cons pe_int (pa_cons (pe_op op_sub (pv 1) pe_int) pa_nil)))))))))))), ?_⟩
  refine Evl.q_when (b := !isTupN 5 d) (Evl.et_not (Evl.et_B (ev_tupN hd (Evl.ev_var rfl) Evl.ev_c))) (fun h1 H1 e1 => ?_) (fun h1 H1 e1 => ?_)
  · rw [isRule_off (by simpa using h1)] at q
    exact Evl.s_ret Evl.ev_c fun H2 e2 => q H2 (e1.trans e2)
  · obtain ⟨ds, rfl, hl⟩ := isTupN_iff (n := 5) (d := d) (by simpa using h1)
    match ds, hl with
    | [c, m, fo, l, g], _ =>
      obtain ⟨a, xs, rfl, _, ha, hx⟩ := hd.tup
      obtain ⟨x1, x2, x3, x4, x5, rfl, d1, d2, d3, d4, d5⟩ := hx.five
      refine q_unp (Evl.ev_var rfl) (Evl.ex_t e1 (Evl.st_of ha)) rfl fun H2 e2 => ⟨x1, _, rfl, x2, _, rfl, x3, _, rfl, x4, _, rfl, x5, _, rfl, rfl, ?_⟩
      have e12 := e1.trans e2
      have f1 : fit c = true := fit_mem hf (by simp)
      have f2 : fit m = true := fit_mem hf (by simp)
      have f3 : fit fo = true := fit_mem hf (by simp)
      have f4 : fit l = true := fit_mem hf (by simp)
      refine Evl.s_ret (v := .bl (isCause c && (isMarking m fo && (isLetters tos l && isIn 0 (n - 1) g)))) ?_ fun H3 e3 => q H3 (e12.trans e3)
      refine Evl.ev_andV (ev_def (Evl.ea_cons (Evl.ev_var rfl) Evl.ea_nil) fun H3 e3 => ⟨D, c, x1, rfl, Dq.same (e12.trans e3) d1, f1, rfl⟩) fun _ => ?_
      refine Evl.ev_andV (ev_def (Evl.ea_cons (Evl.ev_var rfl) (Evl.ea_cons (Evl.ev_var rfl) Evl.ea_nil)) fun H3 e3 => ⟨D, m, fo, x2, x3, rfl, Dq.same (e12.trans e3) d2, Dq.same (e12.trans e3) d3, f2, f3, rfl⟩) fun _ => ?_
      refine Evl.ev_andV (ev_def (Evl.ea_cons (Evl.ev_var rfl) (Evl.ea_cons (Evl.ev_var rfl) Evl.ea_nil)) fun H3 e3 => ⟨D, l, x4, p, tos, rfl, Dq.same (e12.trans e3) d4, f4, Evl.ex_t (e12.trans e3) hp, rfl⟩) fun _ => ?_
      exact ev_inD (Dq.same e12 d5) (Evl.ev_var rfl) Evl.ev_c (Evl.ev_op (Evl.ev_var rfl) Evl.ev_c Evl.rv_I0)
theorem sc_state : FnScope ["thing", "many", "sends_to", "end", "rules", "rule"] ["thing", "many", "sends_to"] (defScope (top 22)) := ⟨rfl, rfl, rfl, by decide +kernel, rfl, by decide +kernel, by decide +kernel⟩
theorem ok_state (F : Def K mg "has_state_form" (top 22) ["thing", "many", "sends_to"]) (B : Bl mg) (C2 : Cst2 K mg) (c_is_tuple_of : Cal P w K mg base 1 "is_tuple_of" (spV RT)) (c_has_rule_form : Cal P w K mg base 4 "has_rule_form" (spV (RmtS K isRule))) :
    Cal P w K mg base 5 "has_state_form" (spV (RmtS K isState)) := by
  refine Cal.of F sc_state (len_spV fun vs H z ⟨D, d, v, n, p, tos, h, _⟩ => by rw [h]; rfl) (fun f cdv A outer s H vs Q E hr h => ?_)
  obtain ⟨z, ⟨D, d, v, n, p, tos, rfl, hd, hf, hp, rfl⟩, q⟩ := h
  obtain ⟨aE, mE, sE⟩ := C2.ENDS
  refine ⟨_, (pss_cons (ps_if (pt_not (pt_val (pcall c_is_tuple_of hr (pa_cons (pv 0) (pa_cons pe_int pa_nil))))) (pss_one (ps_ret pe_bl)) pss_nil)
      (pss_cons (ps_asg (pv 0) (pg_tup rfl (pgs_cons (pg_name (i := 3) sc_state.nd rfl (.inl rfl)) (pgs_cons (pg_name (i := 4) sc_state.nd rfl (.inl rfl)) pgs_nil))))
      (pss_cons (ps_if (PW.pt (pw_or (pt_cmpR (op_notInS (hu1 hr)) (pv 3) (pref mE) (by rfl)) (pw_or (pt_not (pt_val (pe_callB call_isi (by rfl) B.isinstance b_isinstance (pa_cons (pv 4) (pa_cons (pty B.tuple b_tuple) pa_nil))))) (pw_or1 (pt_cmpR op_gt (pe_callB call_len_seq (by rfl) B.len b_len (pa_cons (pv 4) pa_nil)) (pcst C2.MOST_RULES) (nomark _)))))) (pss_one (ps_ret pe_bl)) pss_nil)
      (pss_one (ps_ret (pe_callB (cr_all rfl) (by rfl) B.all b_all (pa_cons (pe_lc (own := [("rule", 5)]) (g := gName 5) (tt := tYes) rfl sc_state.nd (pi_tup (pv 4)) (blkOk_by (N := ["thing", "many", "sends_to", "end", "rules", "rule"]) (sc := defScope (top 22)) (by decide +kernel)) (fun _ _ _ _ _ => pg_name (i := 5) sc_state.nd rfl (Or.inl rfl)) (fun _ _ _ _ _ => pts_nil)
        (fun _ _ _ _ _ => pcall c_has_rule_form hr (pa_cons (pv 5) (pa_cons (pv 1) (pa_cons (pv 2) pa_nil))))) pa_nil))))))), ?_⟩
  refine Evl.q_when (b := !isTupN 2 d) (Evl.et_not (Evl.et_B (ev_tupN hd (Evl.ev_var rfl) Evl.ev_c))) (fun h1 H1 e1 => ?_) (fun h1 H1 e1 => ?_)
  · rw [isState_off (by simpa using h1)] at q
    exact Evl.s_ret Evl.ev_c fun H2 e2 => q H2 (e1.trans e2)
  · obtain ⟨ds, rfl, hl⟩ := isTupN_iff (n := 2) (d := d) (by simpa using h1)
    match ds, hl with
    | [e, r], _ =>
      obtain ⟨a, xs, rfl, _, ha, hx⟩ := hd.tup
      obtain ⟨x1, x2, rfl, d1, d2⟩ := hx.two
      refine q_unp (Evl.ev_var rfl) (Evl.ex_t e1 (Evl.st_of ha)) rfl fun H2 e2 => ⟨x1, _, rfl, x2, _, rfl, rfl, ?_⟩
      have e12 := e1.trans e2
      have fr : fit r = true := fit_mem hf (by simp)
      have r2 := Dq.same e12 d2
      refine Evl.q_when (b := !anyS ends e || (!isTup r || longer 6 r)) ?_ (fun h3 H3 e3 => ?_) (fun h3 H3 e3 => ?_)
      · refine Evl.et_or (Evl.et_test (Evl.ev_op (Evl.ev_var rfl) Evl.ev_c (rv_ninS (Dq.same e12 d1) (sE _)))) fun _ => Evl.et_or (Evl.et_not (Evl.et_B (ev_isi (Evl.ev_var rfl) r2 (kb_tup r)))) fun hs => ?_
        cases r with
        | tuple rs =>
          obtain ⟨a2, ys, rfl, _, ha2, hy⟩ := r2.tup
          have e5 : decide (6 < rs.length) = decide ((6 : Int) < (ys.length : Int)) := decide_eq_decide.mpr (by rw [hy.length]; omega)
          show EvT _ _ _ (decide (6 < rs.length))
          rw [e5]
          exact Evl.et_test (Evl.ev_op (ev_lenT (Evl.ev_var rfl) (Evl.st_of ha2)) Evl.ev_c Evl.rv_I0)
        | _ => cases hs
      · have key : isState tos n (.tuple [e, r]) = false := by
          cases r with
          | tuple rs =>
            have h4 : (!anyS ends e || decide (6 < rs.length)) = true := h3
            show (anyS ends e && decide (rs.length ≤ 6) && _) = false
            have h5 : (anyS ends e && decide (rs.length ≤ 6)) = false := by
              cases h6 : anyS ends e with
              | false => rfl
              | true =>
                rw [h6] at h4
                have h7 : decide (6 < rs.length) = true := h4
                have h8 := of_decide_eq_true h7
                rw [Bool.true_and]
                exact decide_eq_false (by omega)
            rw [h5, Bool.false_and]
          | _ => rfl
        rw [key] at q
        exact Evl.s_ret Evl.ev_c fun H4 e4 => q H4 ((e12.trans e3).trans e4)
      · cases r with
        | tuple rs =>
          have h4 : (!anyS ends e || decide (6 < rs.length)) = false := h3
          rw [Bool.or_eq_false_iff] at h4
          have h5 : anyS ends e = true := by simpa using h4.1
          have h6 := of_decide_eq_false h4.2
          have key : isState tos n (.tuple [e, .tuple rs]) = rs.all (isRule tos n) := by
            show (anyS ends e && decide (rs.length ≤ 6) && rs.all (isRule tos n)) = _
            rw [h5, decide_eq_true (by omega)]
            rfl
          rw [key] at q
          obtain ⟨a2, ys, rfl, _, ha2, hy⟩ := r2.tup
          refine Evl.s_ret (ev_allD (isRule tos n) (Evl.ev_var rfl) (e3 _ _ ha2) (DqL.same e3 hy) (fit_tup fr).1 (fun x => rfl) (fun d x H4 e4 hm hq => ?_)) fun H4 e4 => q H4 ((e12.trans e3).trans e4)
          exact ev_def (Evl.ea_cons (Evl.ev_var rfl) (Evl.ea_cons (Evl.ev_var rfl) (Evl.ea_cons (Evl.ev_var rfl) Evl.ea_nil))) fun H5 e5 => ⟨D, d, x, n, p, tos, rfl, Dq.same e5 hq, fit_mem fr hm, Evl.ex_t e5 (Evl.ex_t e4 (Evl.ex_t e3 (Evl.ex_t e12 hp))), rfl⟩
        | _ => exact absurd h3 (by simp [isTup])
end
/-! ### ups -/
def isUp (m : Str) (many : Int) : PyData → Bool
  | .tuple [k, g] => isS m k && isIn 0 (many - 1) g
  | _ => false
def isUps (ms : List Str) (many : Int) : PyData → Bool
  | .tuple us => decide (us.length = ms.length) && (List.range us.length).all fun i => isUp (ms[i]?.getD "") many (us[i]?.getD .none)
  | _ => false
theorem isUp_off {m : Str} {n : Int} {d : PyData} (h : isTupN 2 d = false) : isUp m n d = false := by
  cases d with
  | tuple ds =>
    match ds with
    | [] => rfl
    | [_] => rfl
    | [_, _] => cases h
    | _ :: _ :: _ :: _ => rfl
  | _ => rfl
def RUp : List V → Hp → V → Prop := fun vs H z => ∃ (D : Ban) (d : PyData) (v : V) (m : Str) (n : Int), vs = [v, .str m, .int n] ∧ Dq D H d v ∧ z = .bl (isUp m n d)
def RUps (K : PySem.W.Frag) : List V → Hp → V → Prop := fun vs H z => ∃ (D : Ban) (d : PyData) (v : V) (p : Addr) (ms : List Str) (n : Int), vs = [v, .ref p, .int n] ∧ Dq D H d v ∧ fit d = true ∧ SqT K H p (ms.map V.str) ∧ z = .bl (isUps ms n d)
section
variable {P : Program} {w : World} {K : PySem.W.Frag} {mg : Str → Option Value} {base : Heap}
theorem sc_up : FnScope ["thing", "mark", "many"] ["thing", "mark", "many"] (defScope (top 29)) := ⟨rfl, rfl, rfl, by decide +kernel, rfl, by decide +kernel, by decide +kernel⟩
theorem ok_up (F : Def K mg "has_up_form" (top 29) ["thing", "mark", "many"]) (c_is_tuple_of : Cal P w K mg base 1 "is_tuple_of" (spV RT)) (c_is_integer_in : Cal P w K mg base 2 "is_integer_in" (spV R3)) : Cal P w K mg base 3 "has_up_form" (spV RUp) := by
  refine Cal.of F sc_up (len_spV fun vs H z ⟨D, d, v, m, n, h, _⟩ => by rw [h]; rfl) (fun f cdv A outer s H vs Q E hr h => ?_)
  obtain ⟨z, ⟨D, d, v, m, n, rfl, hd, rfl⟩, q⟩ := h
  refine ⟨_, (pss_one (ps_ret (pe_and (pcall c_is_tuple_of hr (pa_cons (pv 0) (pa_cons pe_int pa_nil))) (pe_and (pe_cmpR (op_eqS (hu1 hr)) (pe_ix ix_tup (pv 0) pe_int (fun _ _ => rfl)) (pv 1) (nomark _)) (pe_one (pcall c_is_integer_in hr (pa_cons (pe_ix ix_tup (pv 0) pe_int (fun _ _ => rfl)) (pa_cons pe_int (pa_cons (pe_op op_sub (pv 2) pe_int) pa_nil))))))))), ?_⟩
  have key : isUp m n d = (isTupN 2 d && isUp m n d) := by
    cases h : isTupN 2 d with
    | true => rfl
    | false => rw [isUp_off h]; rfl
  rw [key] at q
  refine Evl.s_ret (Evl.ev_andV (ev_tupN hd (Evl.ev_var rfl) Evl.ev_c) fun h2 => ?_) q
  obtain ⟨ds, rfl, hl⟩ := isTupN_iff (n := 2) h2
  match ds, hl with
  | [k, g], _ =>
    obtain ⟨a, xs, rfl, _, ha, hx⟩ := hd.tup
    obtain ⟨x1, x2, rfl, d1, d2⟩ := hx.two
    refine Evl.ev_andV (Evl.ev_op (ev_ixT (i := 0) (Evl.ev_var rfl) Evl.ev_c (Evl.st_of ha) rfl) (Evl.ev_var rfl) (rv_eqS d1)) fun _ => ?_
    exact ev_inD d2 (ev_ixT (i := 1) (Evl.ev_var rfl) Evl.ev_c (Evl.st_of ha) rfl) Evl.ev_c (Evl.ev_op (Evl.ev_var rfl) Evl.ev_c Evl.rv_I0)
end
end Al
namespace Al
open PySem PySem.Spec PyProof.Rows L2
open Evl (Ex Ev EvT EvA EvL EvU SpV RV RC RCL)
section
variable {K : PySem.W.Frag} {σ : L2.St} {H : Hp} {ta tb tc te tl : TE} {t : TT} {x y z v : V} {Dn : Ends} {tz : TS}
/-- [e for a, b in zip(two tuples as long as one another)] -/
theorem el_lcZ {tA : TA} {a b : Addr} {xs ys : List V} {j k : Nat} {vs : List Nat} (v : Nat → V) (h : EvA tA σ H [.ref a, .ref b]) (hx : SqT K H a xs) (hy : SqT K H b ys) (hl : xs.length = ys.length) (hz : xs.length ≤ 40000)
    (hw : ∀ x y, wipe (((wipe σ vs).set j (some x)).set k (some y)) vs = wipe σ vs)
    (he : ∀ (i : Nat) (x y : V) H1, Ex H H1 → xs[i]? = some x → ys[i]? = some y → Ev te (((wipe σ vs).set j (some x)).set k (some y)) H1 (v i)) :
    EvL (tLc (RZ.iZipA K tA) (gTup K 2 (gCons (gName j) (gCons (gName k) gNil))) tYes te vs) σ H (Evl.given xs.length (fun _ => true) v) := fun H0 e Q q => h H0 e _ fun H1 e1 => by
  refine ⟨a, b, xs, ys, rfl, .inr ⟨Evl.ex_t (e.trans e1) hx, Evl.ex_t (e.trans e1) hy, fun Dl hD => ?_⟩⟩
  refine ⟨fun i m H' => m = xs.length - i ∧ i ≤ xs.length ∧ Evl.Cw H1 (fun _ => true) v Dl i H', ⟨xs.length, by simp, Nat.zero_le _, hD, Ex.new hD, upd_same⟩, ?_⟩
  rintro i m H' ⟨rfl, hi, p⟩
  have q1 := Evl.ex_t ((e.trans e1).trans p.2.1) hx
  have q2 := Evl.ex_t ((e.trans e1).trans p.2.1) hy
  by_cases hlt : i < xs.length
  · have g1 : xs[i]? = some xs[i] := List.getElem?_eq_getElem hlt
    have g2 : ys[i]? = some (ys[i]'(by omega)) := List.getElem?_eq_getElem (by omega)
    refine .inr ⟨⟨xs, ys, _, _, q1, q2, g1, g2⟩, fun H2 => Evl.Cw H1 (fun _ => true) v Dl (i + 1) H2, fun H2 p2 => ⟨xs.length - (i + 1), by omega, rfl, hlt, p2⟩, ?_⟩
    rintro u H2 ⟨T, x, y, rfl, nT, rfl, f1, f2⟩
    have ex := f1 _ q1
    have ey := f2 _ q2
    have eT : Ex H' (upd H' T (.tup [x, y])) := Ex.new nT
    refine ⟨T, [x, y], rfl, .inl (.inl upd_same), rfl, x, [y], rfl, y, [], rfl, rfl, hw x y, ?_⟩
    have p2 : Evl.Cw H1 (fun _ => true) v Dl i (upd H' T (.tup [x, y])) := ⟨p.1, p.2.1.trans eT, eT _ _ p.2.2⟩
    exact Evl.cw_turn p2 (by omega) et_yes fun _ => he i x y H1 (e.trans e1) ex ey
  · have hn : i = xs.length := by omega
    subst hn
    exact .inl ⟨⟨xs, ys, q1, q2, .inl (Nat.le_refl _)⟩, q Dl H' (Evl.fresh_back e1 p.1) (e1.trans p.2.1) p.2.2⟩
end
section
variable {P : Program} {w : World} {K : PySem.W.Frag} {mg : Str → Option Value} {base : Heap}
theorem isUps_off {ms : List Str} {n : Int} {d : PyData} (h : isTupN (ms.length : Int) d = false) : isUps ms n d = false := by
  cases d with
  | tuple us =>
    have q := of_decide_eq_false (p := (us.length : Int) = (ms.length : Int)) h
    show (decide (us.length = ms.length) && _) = false
    rw [decide_eq_false (by omega), Bool.false_and]
  | _ => rfl
theorem sc_ups : FnScope ["thing", "marks", "many", "pair", "mark"] ["thing", "marks", "many"] (defScope (top 28)) := ⟨rfl, rfl, rfl, by decide +kernel, rfl, by decide +kernel, by decide +kernel⟩
theorem ok_ups (F : Def K mg "has_ups_form" (top 28) ["thing", "marks", "many"]) (B : Bl mg) (c_is_tuple_of : Cal P w K mg base 1 "is_tuple_of" (spV RT)) (c_has_up_form : Cal P w K mg base 3 "has_up_form" (spV RUp)) : Cal P w K mg base 4 "has_ups_form" (spV (RUps K)) := by
  refine Cal.of F sc_ups (len_spV fun vs H z ⟨D, d, v, p, ms, n, h, _⟩ => by rw [h]; rfl) (fun f cdv A outer s H vs Q E hr h => ?_)
  obtain ⟨z, ⟨D, d, v, p, ms, n, rfl, hd, hf, hp, rfl⟩, q⟩ := h
  refine ⟨_, (pss_cons (ps_if (pt_not (pt_val (pcall c_is_tuple_of hr (pa_cons (pv 0) (pa_cons (pe_callB call_len_seq (by rfl) B.len b_len (pa_cons (pv 1) pa_nil)) pa_nil))))) (pss_one (ps_ret pe_bl)) pss_nil)
      (pss_one (ps_ret (pe_callB (cr_all rfl) (by rfl) B.all b_all (pa_cons (pe_lc (own := [("pair", 3), ("mark", 4)]) (g := gTup _ 2 (gCons (gName 3) (gCons (gName 4) gNil))) (tt := tYes) rfl sc_ups.nd (RZ.pi_zipA (by rfl) B.zip (pa_cons (pv 0) (pa_cons (pv 1) pa_nil))) (blkOk_by (N := ["thing", "marks", "many", "pair", "mark"]) (sc := defScope (top 28)) (by decide +kernel))
        (fun _ _ _ _ _ => pg_tup rfl (pgs_cons (pg_name (i := 3) sc_ups.nd rfl (Or.inl rfl)) (pgs_cons (pg_name (i := 4) sc_ups.nd rfl (Or.inl rfl)) pgs_nil))) (fun _ _ _ _ _ => pts_nil) (fun _ _ _ _ _ => pcall c_has_up_form hr (pa_cons (pv 3) (pa_cons (pv 4) (pa_cons (pv 2) pa_nil))))) pa_nil))))), ?_⟩
  have hlen : ((ms.map V.str).length : Int) = (ms.length : Int) := by rw [List.length_map]
  refine Evl.q_when (b := !isTupN (ms.length : Int) d) (Evl.et_not (Evl.et_B (by rw [← hlen]; exact ev_tupN hd (Evl.ev_var rfl) (ev_lenT (Evl.ev_var rfl) hp)))) (fun h1 H1 e1 => ?_) (fun h1 H1 e1 => ?_)
  · rw [isUps_off (by simpa using h1)] at q
    exact Evl.s_ret Evl.ev_c fun H2 e2 => q H2 (e1.trans e2)
  · obtain ⟨us, rfl, hl⟩ := isTupN_iff (n := ms.length) (d := d) (by simpa using h1)
    obtain ⟨a, xs, rfl, _, ha, hx⟩ := hd.tup
    have key : isUps ms n (.tuple us) = (((List.range us.length).map fun i => isUp (ms[i]?.getD "") n (us[i]?.getD .none)).all id) := by
      show (decide (us.length = ms.length) && _) = _
      rw [decide_eq_true hl, Bool.true_and, List.all_map]
      rfl
    rw [key] at q
    refine Evl.s_ret (ev_all ?_) fun H2 e2 => q H2 (e1.trans e2)
    rw [← given_bl, ← hx.length]
    refine el_lcZ _ (Evl.ea_cons (Evl.ev_var rfl) (Evl.ea_cons (Evl.ev_var rfl) Evl.ea_nil)) (Evl.ex_t e1 (Evl.st_of ha)) (Evl.ex_t e1 hp) (by rw [List.length_map, hx.length, hl]) (by rw [hx.length]; exact (fit_tup hf).1) (fun x y => rfl) (fun i x y H2 e2 ex ey => ?_)
    obtain ⟨u, hu, hq⟩ := hx.getV ex
    obtain ⟨m, hm, rfl⟩ : ∃ m, ms[i]? = some m ∧ y = .str m := by
      rw [List.getElem?_map] at ey
      cases e : ms[i]? with
      | none => rw [e] at ey; cases ey
      | some m => rw [e] at ey; exact ⟨m, rfl, (Option.some.inj ey).symm⟩
    rw [hu, hm]
    exact ev_def (Evl.ea_cons (Evl.ev_var rfl) (Evl.ea_cons (Evl.ev_var rfl) (Evl.ea_cons (Evl.ev_var rfl) Evl.ea_nil))) fun H3 e3 => ⟨D, u, x, m, n, rfl, Dq.same e3 (Dq.same e2 (Dq.same e1 hq)), rfl⟩
end
/-! ### the rules and marks of states -/
def rsOf : PyData → List PyData
  | .tuple [_, .tuple rs] => rs
  | _ => []
def rulesOf (ss : List PyData) : List PyData := ss.flatMap rsOf
def markOf : PyData → Str
  | .tuple [_, .str m, _, _, _] => m
  | _ => ""
def marksOf (ss : List PyData) : List Str := ((rulesOf ss).map markOf).filter fun m => !decide (m = "")
def WfR (r : PyData) : Prop := ∃ c m f l g, r = .tuple [c, .str m, f, l, g]
def WfS (s : PyData) : Prop := ∃ e rs, s = .tuple [e, .tuple rs] ∧ ∀ r ∈ rs, WfR r
theorem rulesOf_snoc {ss : List PyData} {i : Nat} {s : PyData} (h : ss[i]? = some s) : rulesOf (ss.take (i + 1)) = rulesOf (ss.take i) ++ rsOf s := by
  unfold rulesOf
  rw [List.take_add_one, h, List.flatMap_append]
  congr 1
  exact List.append_nil _
theorem rulesOf_mem {ss : List PyData} (h : ∀ s ∈ ss, WfS s) : ∀ r ∈ rulesOf ss, WfR r := fun r hr => by
  obtain ⟨s, hs, hr'⟩ := List.mem_flatMap.mp hr
  obtain ⟨e, rs, rfl, q⟩ := h s hs
  exact q r hr'
def spRules : Sp := fun vs H Q _ => ∃ (D : Ban) (ss : List PyData) (a : Addr) (xs : List V), vs = [.ref a] ∧ H a = some (.tup xs) ∧ DqL D H ss xs ∧ (∀ s ∈ ss, WfS s) ∧ (rulesOf ss).length ≤ 4000 ∧
  ∀ p H' zs, Ex H H' → H p = none → H' p = some (.lst zs) → DqL D H' (rulesOf ss) zs → Q (.ref p) H'
section
variable {P : Program} {w : World} {K : PySem.W.Frag} {mg : Str → Option Value} {base : Heap}
theorem sc_rules : FnScope ["states", "_", "rules", "rule"] ["states"] (defScope (top 30)) := ⟨rfl, rfl, rfl, by decide +kernel, rfl, by decide +kernel, by decide +kernel⟩
theorem DqL.mut {D : Ban} {H H1 H2 : Hp} {p : Addr} {o : HO} {ds : List PyData} {xs : List V} (h : DqL D H ds xs) (e : Ex H H1) (hp : H p = none) : DqL D (upd H1 p o) ds xs := DqL.same (Ex.mut e hp) h
theorem ok_rules (F : Def K mg "rules_in" (top 30) ["states"]) : Cal P w K mg base 1 "rules_in" spRules := by
  refine Cal.of F sc_rules (fun vs H Q E ⟨D, ss, a, xs, e, _⟩ => by rw [e]; rfl) (fun f cdv A outer s H vs Q E hr h => ?_)
  obtain ⟨D, ss, a, xs, rfl, ha, hx, wf, few, q⟩ := h
  refine ⟨_, (pss_one (ps_ret (pe_lc2 (own := [("_", 1), ("rules", 2), ("rule", 3)]) (vs1 := [3]) (wi1 := iTup K (tVar 2)) (te := tVar 3) (g := gTup K 2 (gCons (gName 1) (gCons (gName 2) gNil))) (g1 := gName 3) (tt := tYes) (tt1 := tYes) rfl sc_rules.nd (pi_tup (pv 0)) (blkOk_by (N := ["states", "_", "rules", "rule"]) (sc := defScope (top 30)) (by decide +kernel)) (by decide)
      (fun _ _ _ _ _ => pg_tup rfl (pgs_cons (pg_name (i := 1) sc_rules.nd rfl (Or.inl rfl)) (pgs_cons (pg_name (i := 2) sc_rules.nd rfl (Or.inl rfl)) pgs_nil))) (fun _ _ _ _ _ => pts_nil)
      (fun _ _ _ _ _ => pi_tup (pv 2)) (fun _ _ _ _ _ => pg_name (i := 3) sc_rules.nd rfl (Or.inl rfl)) (fun _ _ _ _ _ => pts_nil) (fun _ _ _ _ _ => pv 3)))), ?_⟩
  refine ⟨_, rfl, a, rfl, ⟨xs, Evl.st_of ha⟩, fun Dl hD => ?_⟩
  refine ⟨fun i m H' => m = ss.length - i ∧ i ≤ ss.length ∧ Ex H H' ∧ ∃ zs, H' Dl = some (.lst zs) ∧ DqL D H (rulesOf (ss.take i)) zs, ⟨ss.length, by simp, Nat.zero_le _, Ex.new hD, [], upd_same, DqL.nil⟩, ?_⟩
  rintro i m H' ⟨rfl, hi, ex, zs, hz, dz⟩
  have sx := Evl.ex_t (K := K) ex (Evl.st_of ha)
  by_cases hlt : i < ss.length
  · have gs : ss[i]? = some ss[i] := List.getElem?_eq_getElem hlt
    obtain ⟨x, gx, dx⟩ := hx.get gs
    refine .inr ⟨⟨xs, x, sx, gx⟩, fun H2 => Ex H H2 ∧ ∃ zs, H2 Dl = some (.lst zs) ∧ DqL D H (rulesOf (ss.take (i + 1))) zs, fun H2 ⟨p1, p2⟩ => ⟨ss.length - (i + 1), by omega, rfl, hlt, p1, p2⟩, ?_⟩
    rintro x' H2 ⟨rfl, f1⟩
    have ex' : x = x' := Option.some.inj (gx.symm.trans (f1 _ sx))
    subst ex'
    obtain ⟨e, rs, es, wr⟩ := wf _ (List.getElem_mem hlt)
    rw [es] at dx gs
    obtain ⟨b, ys, rfl, _, hb, hy⟩ := dx.tup
    obtain ⟨y1, y2, rfl, d1, d2⟩ := hy.two
    obtain ⟨c, us, rfl, _, hc, hu⟩ := d2.tup
    refine ⟨b, _, rfl, Evl.st_of (ex _ _ hb), rfl, y1, _, rfl, .ref c, [], rfl, rfl, rfl, ?_⟩
    refine ⟨_, rfl, c, rfl, ⟨us, Evl.st_of (ex _ _ hc)⟩, ?_⟩
    have er := rulesOf_snoc gs
    refine ⟨fun j k H3 => k = rs.length - j ∧ j ≤ rs.length ∧ Ex H H3 ∧ ∃ zs, H3 Dl = some (.lst zs) ∧ DqL D H (rulesOf (ss.take i) ++ rs.take j) zs, ⟨rs.length, by simp, Nat.zero_le _, ex, zs, hz, by rw [List.take_zero, List.append_nil]; exact dz⟩, ?_⟩
    rintro j k H3 ⟨rfl, hj, ex3, zs3, hz3, dz3⟩
    have su := Evl.ex_t (K := K) ex3 (Evl.st_of hc)
    by_cases hlj : j < rs.length
    · have gr : rs[j]? = some rs[j] := List.getElem?_eq_getElem hlj
      obtain ⟨u, gu, du⟩ := hu.get gr
      refine .inr ⟨⟨us, u, su, gu⟩, fun H4 => Ex H H4 ∧ ∃ zs, H4 Dl = some (.lst zs) ∧ DqL D H (rulesOf (ss.take i) ++ rs.take (j + 1)) zs, fun H4 ⟨p1, p2⟩ => ⟨rs.length - (j + 1), by omega, rfl, hlj, p1, p2⟩, ?_⟩
      rintro u' H4 ⟨rfl, f2⟩
      have eu : u = u' := Option.some.inj (gu.symm.trans (f2 _ su))
      subst eu
      refine ⟨rfl, _, rfl, zs3, hz3, ?_, Ex.mut ex3 hD, _, upd_same, ?_⟩
      · have l1 := dz3.length
        rw [List.length_append] at l1
        have l2 : (rulesOf (ss.take (i + 1))).length ≤ (rulesOf ss).length := by
          have e1 : rulesOf ss = rulesOf (ss.take (i + 1)) ++ rulesOf (ss.drop (i + 1)) := by
            show List.flatMap rsOf ss = List.flatMap rsOf _ ++ List.flatMap rsOf _
            rw [← List.flatMap_append, List.take_append_drop]
          rw [e1, List.length_append]
          omega
        rw [er, List.length_append] at l2
        have l3 : (rsOf (.tuple [e, .tuple rs])).length = rs.length := rfl
        have l4 : (rs.take j).length ≤ rs.length := by rw [List.length_take]; omega
        exact Nat.lt_of_le_of_lt (show zs3.length ≤ 4000 by omega) (by decide)
      · have e2 : rs.take (j + 1) = rs.take j ++ [rs[j]] := by rw [List.take_add_one, gr] <;> rfl
        rw [e2, ← List.append_assoc]
        exact dz3.append (DqL.cons du DqL.nil)
    · have hn : j = rs.length := by omega
      subst hn
      refine .inl ⟨⟨us, su, by rw [hu.length]; exact Nat.le_refl _⟩, ex3, zs3, hz3, ?_⟩
      rw [er]
      rw [List.take_length] at dz3
      exact dz3
  · have hn : i = ss.length := by omega
    subst hn
    rw [List.take_length] at dz
    exact .inl ⟨⟨xs, sx, by rw [hx.length]; exact Nat.le_refl _⟩, q Dl H' zs ex hD hz (DqL.same ex dz)⟩
end
end Al
namespace Al
open PySem PySem.Spec PyProof.Rows L2
open Evl (Ex Ev EvT EvA EvL EvU SpV RV RC RCL)
/-- what a filter over the places gives is what the filter over the list gives -/
theorem given_list {α : Type} (l : List α) (d : α) (p : α → Bool) (g : α → V) : Evl.given l.length (fun i => p (l[i]?.getD d)) (fun i => g (l[i]?.getD d)) = (l.filter p).map g := by
  have e : (List.range l.length).map (fun i => l[i]?.getD d) = l := by
    apply List.ext_getElem
    · simp
    · intro i h1 h2
      simp [List.getElem?_eq_getElem h2]
  conv => rhs; rw [← e]
  unfold Evl.given
  rw [List.filter_map, List.map_map]
  rfl
/-- len(a list or a tuple) -/
abbrev rLn (K : PySem.W.Frag) : List V → Hp → VK → Prop := fun xs H Q => ∃ p ys, xs = [.ref p] ∧ (SqL K H p ys ∨ SqT K H p ys) ∧ Q (.int ys.length) H
/-! ### marks_in -/
def spMarks : Sp := fun vs H Q _ => ∃ (D : Ban) (ss : List PyData) (a : Addr) (xs : List V), vs = [.ref a] ∧ H a = some (.tup xs) ∧ DqL D H ss xs ∧ (∀ s ∈ ss, WfS s) ∧ (rulesOf ss).length ≤ 4000 ∧
  ∀ r H', Ex H H' → H r = none → IsSrt (marksOf ss) (srt (marksOf ss)) → (srt (marksOf ss)).length ≤ 4000 → H' r = some (.tup ((srt (marksOf ss)).map V.str)) → Q (.ref r) H'
theorem WfR.mark {r : PyData} (h : WfR r) : ∃ c f l g, r = .tuple [c, .str (markOf r), f, l, g] := by
  obtain ⟨c, m, f, l, g, rfl⟩ := h
  exact ⟨c, f, l, g, rfl⟩
section
variable {P : Program} {w : World} {K : PySem.W.Frag} {mg : Str → Option Value} {base : Heap}
theorem sc_marks : FnScope ["states", "rule"] ["states"] (defScope (top 31)) := ⟨rfl, rfl, rfl, by decide +kernel, rfl, by decide +kernel, by decide +kernel⟩
theorem ok_marks (F : Def K mg "marks_in" (top 31) ["states"]) (c_rules_in : Cal P w K mg base 1 "rules_in" spRules) (c_ascending : Cal P w K mg base 1 "ascending" (spAsc K)) : Cal P w K mg base 2 "marks_in" spMarks := by
  refine Cal.of F sc_marks (fun vs H Q E ⟨D, ss, a, xs, e, _⟩ => by rw [e]; rfl) (fun f cdv A outer s H vs Q E hr h => ?_)
  obtain ⟨D, ss, a, xs, rfl, ha, hx, wf, few, q⟩ := h
  refine ⟨_, (pss_one (ps_ret (pcall c_ascending hr (pa_cons (pe_lc (own := [("rule", 1)]) (g := gName 1) (tt := tTest (tOp rNe (tOp (rIxT K) (tVar 1) (tC (.int 1))) (tC (.str "")))) (te := tOp (rIxT K) (tVar 1) (tC (.int 1))) rfl sc_marks.nd (pi_list (pcall c_rules_in hr (pa_cons (pv 0) pa_nil))) (blkOk_by (N := ["states", "rule"]) (sc := defScope (top 31)) (by decide +kernel))
      (fun _ _ _ _ _ => pg_name (i := 1) sc_marks.nd rfl (Or.inl rfl)) (fun _ _ _ _ _ => pts_one (pt_cmpR op_ne (pe_ix ix_tup (pv 1) pe_int (fun _ _ => rfl)) pe_str (nomark _))) (fun _ _ _ _ _ => pe_ix ix_tup (pv 1) pe_int (fun _ _ => rfl))) pa_nil)))), ?_⟩
  have main : EvL (tLc (iList K (tCall spRules [] E0 (tCons (tVar 0) tNil))) (gName 1) (tTest (tOp rNe (tOp (rIxT K) (tVar 1) (tC (.int 1))) (tC (.str "")))) (tOp (rIxT K) (tVar 1) (tC (.int 1))) [1]) (start ["states", "rule"] [.ref a]) H ((marksOf ss).map V.str) := by
    intro H1 e1 Q1 q1
    refine ⟨_, rfl, D, ss, a, xs, rfl, e1 _ _ ha, DqL.same e1 hx, wf, few, fun p H2 zs e2 hp hz dz => ?_⟩
    have e12 := e1.trans e2
    have wr := rulesOf_mem wf
    have el := Evl.el_lcL (K := K) (σ := start ["states", "rule"] [.ref a]) (H := H2) (a := p) (xs := zs) (tl := tC (.ref p)) (j := 1) (vs := [1])
      (t := tTest (tOp rNe (tOp (rIxT K) (tVar 1) (tC (.int 1))) (tC (.str "")))) (te := tOp (rIxT K) (tVar 1) (tC (.int 1)))
      (fun i => !decide (markOf ((rulesOf ss)[i]?.getD .none) = "")) (fun i => .str (markOf ((rulesOf ss)[i]?.getD .none))) Evl.ev_c (Evl.sq_of hz) (by rw [dz.length]; omega) (fun x => rfl)
      (fun i x H3 e3 hi => ?_) (fun i x H3 e3 hi _ => ?_)
    · refine el H2 (Ex.refl H2) Q1 fun r H3 hr3 e3 h3 => q1 r H3 (Evl.fresh_back e2 hr3) (e2.trans e3) ?_
      rw [h3, dz.length]
      have g := given_list (rulesOf ss) .none (fun r => !decide (markOf r = "")) (fun r => V.str (markOf r))
      rw [g]
      unfold marksOf
      rw [List.filter_map, List.map_map]
      rfl
    · obtain ⟨d, hd, hq⟩ := dz.getV hi
      obtain ⟨c, f, l, g, er⟩ := (wr d (List.mem_of_getElem? hd)).mark
      rw [hd]
      have hq' := hq
      rw [er] at hq'
      obtain ⟨b, ys, rfl, _, hb, hy⟩ := hq'.tup
      obtain ⟨y1, y2, y3, y4, y5, rfl, _, d2, _⟩ := hy.five
      unfold Dq at d2
      subst d2
      have ev : Ev (tOp (rIxT K) (tVar 1) (tC (.int 1))) ((wipe (start ["states", "rule"] [.ref a]) [1]).set 1 (some (.ref b))) H3 (.str (markOf d)) := ev_ixT (i := 1) (Evl.ev_var rfl) Evl.ev_c (Evl.st_of (e3 _ _ hb)) rfl
      have e5 : (!decide (markOf d = "")) = (!decide (V.str (markOf d) = V.str "")) := by
        congr 1
        exact decide_eq_decide.mpr ⟨fun e => by rw [e], fun e => V.str.inj e⟩
      show EvT _ _ _ (!decide (markOf d = ""))
      rw [e5]
      exact Evl.et_test (Evl.ev_op ev Evl.ev_c (Evl.rv_ne rfl))
    · obtain ⟨d, hd, hq⟩ := dz.getV hi
      obtain ⟨c, f, l, g, er⟩ := (wr d (List.mem_of_getElem? hd)).mark
      rw [hd]
      have hq' := hq
      rw [er] at hq'
      obtain ⟨b, ys, rfl, _, hb, hy⟩ := hq'.tup
      obtain ⟨y1, y2, y3, y4, y5, rfl, _, d2, _⟩ := hy.five
      unfold Dq at d2
      subst d2
      exact ev_ixT (i := 1) (Evl.ev_var rfl) Evl.ev_c (Evl.st_of (e3 _ _ hb)) rfl
  have ml : (marksOf ss).length ≤ 4000 := by
    unfold marksOf
    refine Nat.le_trans (List.length_filter_le _ _) ?_
    rw [List.length_map]
    exact few
  refine main H (Ex.refl H) (fun x H1 => spAsc K ([x] ++ []) H1 Q E0) fun p H1 hp e1 h1 => ⟨p, marksOf ss, rfl, Evl.sq_of h1, ml, fun r H2 e2 hr2 hs hl h2 => ?_⟩
  exact q r H2 (e1.trans e2) (Evl.fresh_back e1 hr2) hs (Nat.le_trans hl ml) h2
end
/-! ### roles and protocols -/
noncomputable def isRole (tos : List Str) : PyData → Bool
  | .tuple [.tuple ss, u] => decide (1 ≤ ss.length) && decide (ss.length ≤ 12) && ss.all (isState tos ss.length) && isUps ("" :: srt (marksOf ss)) ss.length u
  | _ => false
noncomputable def isProt : PyData → Bool
  | .tuple [a, b] => isRole toL a && isRole toM b
  | _ => false
theorem isRole_off {tos : List Str} {d : PyData} (h : isTupN 2 d = false) : isRole tos d = false := by
  cases d with
  | tuple ds =>
    match ds with
    | [] => rfl
    | [a] => cases a <;> rfl
    | [_, _] => cases h
    | a :: _ :: _ :: _ => cases a <;> rfl
  | _ => rfl
theorem isRule_wf {tos : List Str} {n : Int} {r : PyData} (h : isRule tos n r = true) : WfR r := by
  cases d2 : isTupN 5 r with
  | false => rw [isRule_off d2] at h; cases h
  | true =>
    obtain ⟨ds, rfl, hl⟩ := isTupN_iff (n := 5) d2
    match ds, hl with
    | [c, m, f, l, g], _ =>
      have h' : (isCause c && (isMarking m f && (isLetters tos l && isIn 0 (n - 1) g))) = true := h
      rw [Bool.and_eq_true, Bool.and_eq_true] at h'
      have h2 := h'.2.1
      cases f with
      | bool b =>
        have h3 : (isWord m || (isS "" m && !b)) = true := h2
        cases m with
        | str z => exact ⟨c, z, _, l, g, rfl⟩
        | _ => exact absurd h3 (by simp [isWord, isS])
      | _ => cases h2
theorem isState_wf {tos : List Str} {n : Int} {s : PyData} (h : isState tos n s = true) : WfS s ∧ (rsOf s).length ≤ 6 := by
  cases d2 : isTupN 2 s with
  | false => rw [isState_off d2] at h; cases h
  | true =>
    obtain ⟨ds, rfl, hl⟩ := isTupN_iff (n := 2) d2
    match ds, hl with
    | [e, r], _ =>
      cases r with
      | tuple rs =>
        have h' : (anyS ends e && decide (rs.length ≤ 6) && rs.all (isRule tos n)) = true := h
        rw [Bool.and_eq_true, Bool.and_eq_true] at h'
        exact ⟨⟨e, rs, rfl, fun r hr => isRule_wf (List.all_eq_true.mp h'.2 r hr)⟩, of_decide_eq_true h'.1.2⟩
      | _ => cases h
theorem rulesOf_len : ∀ {ss : List PyData} {k : Nat}, (∀ s ∈ ss, (rsOf s).length ≤ k) → (rulesOf ss).length ≤ ss.length * k
  | [], k, _ => by simp [rulesOf]
  | s :: ss, k, h => by
    have ih := rulesOf_len (ss := ss) (k := k) fun t ht => h t (List.mem_cons_of_mem _ ht)
    have h1 := h s List.mem_cons_self
    have e : rulesOf (s :: ss) = rsOf s ++ rulesOf ss := rfl
    rw [e, List.length_append, List.length_cons, Nat.add_mul]
    omega
theorem states_ok {tos : List Str} {n : Int} {ss : List PyData} (h : ss.all (isState tos n) = true) (hl : ss.length ≤ 12) : (∀ s ∈ ss, WfS s) ∧ (rulesOf ss).length ≤ 4000 := by
  have h' := List.all_eq_true.mp h
  refine ⟨fun s hs => (isState_wf (h' s hs)).1, ?_⟩
  have q := rulesOf_len (ss := ss) (k := 6) fun s hs => (isState_wf (h' s hs)).2
  omega
section
variable {P : Program} {w : World} {K : PySem.W.Frag} {mg : Str → Option Value} {base : Heap}
theorem sc_role : FnScope ["thing", "sends_to", "states", "ups", "state"] ["thing", "sends_to"] (defScope (top 21)) := ⟨rfl, rfl, rfl, by decide +kernel, rfl, by decide +kernel, by decide +kernel⟩
theorem ok_role (F : Def K mg "has_role_form" (top 21) ["thing", "sends_to"]) (B : Bl mg) (C2 : Cst2 K mg) (c_is_tuple_of : Cal P w K mg base 1 "is_tuple_of" (spV RT)) (c_has_state_form : Cal P w K mg base 5 "has_state_form" (spV (RmtS K isState)))
    (c_has_ups_form : Cal P w K mg base 4 "has_ups_form" (spV (RUps K))) (c_marks_in : Cal P w K mg base 2 "marks_in" spMarks) : Cal P w K mg base 6 "has_role_form" (spV (RtoS K isRole)) := by
  refine Cal.of F sc_role (len_spV fun vs H z ⟨D, d, v, p, tos, h, _⟩ => by rw [h]; rfl) (fun f cdv A outer s H vs Q E hr h => ?_)
  obtain ⟨z, ⟨D, d, v, p, tos, rfl, hd, hf, hp, rfl⟩, q⟩ := h
  refine ⟨_, (pss_cons (ps_if (pt_not (pt_val (pcall c_is_tuple_of hr (pa_cons (pv 0) (pa_cons pe_int pa_nil))))) (pss_one (ps_ret pe_bl)) pss_nil)
      (pss_cons (ps_asg (pv 0) (pg_tup rfl (pgs_cons (pg_name (i := 2) sc_role.nd rfl (.inr rfl)) (pgs_cons (pg_name (i := 3) sc_role.nd rfl (.inl rfl)) pgs_nil))))
      (pss_cons (ps_if (PW.pt (pw_or (pt_not (pt_val (pe_callB call_isi (by rfl) B.isinstance b_isinstance (pa_cons (pv 2) (pa_cons (pty B.tuple b_tuple) pa_nil))))) (pw_or1 (pt_not (pt_chain op_le op_le pe_int (pe_callB call_len_seq (by rfl) B.len b_len (pa_cons (pv 2) pa_nil)) (pcst C2.MOST_STATES)))))) (pss_one (ps_ret pe_bl)) pss_nil)
      (pss_cons (ps_if (pt_not (pt_val (pe_callB (cr_all rfl) (by rfl) B.all b_all (pa_cons (pe_lc (own := [("state", 4)]) (g := gName 4) (tt := tYes) (te := tCall (spV (RmtS K isState)) [] E0 (tCons (tVar 4) (tCons (tCB (rLn K) (tCons (tVar 2) tNil)) (tCons (tVar 1) tNil)))) rfl sc_role.nd (pi_tup (pv 2)) (blkOk_by (N := ["thing", "sends_to", "states", "ups", "state"]) (sc := defScope (top 21)) (by decide +kernel)) (fun _ _ _ _ _ => pg_name (i := 4) sc_role.nd rfl (Or.inl rfl)) (fun _ _ _ _ _ => pts_nil)
        (fun _ _ _ _ _ => by exact (pcall c_has_state_form hr (pa_cons (pv 4) (pa_cons (pe_callB call_len_seq (by rfl) B.len b_len (pa_cons (pv 2) pa_nil)) (pa_cons (pv 1) pa_nil)))))) pa_nil)))) (pss_one (ps_ret pe_bl)) pss_nil)
      (pss_one (ps_ret (pcall c_has_ups_form hr (pa_cons (pv 3) (pa_cons (pe_op op_catT (pe_tup (pa_cons pe_str pa_nil)) (pcall c_marks_in hr (pa_cons (pv 2) pa_nil))) (pa_cons (pe_callB call_len_seq (by rfl) B.len b_len (pa_cons (pv 2) pa_nil)) pa_nil)))))))))), ?_⟩
  refine Evl.q_when (b := !isTupN 2 d) (Evl.et_not (Evl.et_B (ev_tupN hd (Evl.ev_var rfl) Evl.ev_c))) (fun h1 H1 e1 => ?_) (fun h1 H1 e1 => ?_)
  · rw [isRole_off (by simpa using h1)] at q
    exact Evl.s_ret Evl.ev_c fun H2 e2 => q H2 (e1.trans e2)
  · obtain ⟨ds, rfl, hl⟩ := isTupN_iff (n := 2) (d := d) (by simpa using h1)
    match ds, hl with
    | [sd, u], _ =>
      obtain ⟨a, xs, rfl, _, ha, hx⟩ := hd.tup
      obtain ⟨x1, x2, rfl, d1, d2⟩ := hx.two
      refine q_unp (Evl.ev_var rfl) (Evl.ex_t e1 (Evl.st_of ha)) rfl fun H2 e2 => ⟨x1, _, rfl, x2, _, rfl, rfl, ?_⟩
      have e12 := e1.trans e2
      have fs : fit sd = true := fit_mem hf (by simp)
      have fu : fit u = true := fit_mem hf (by simp)
      have s2 := Dq.same e12 d1
      refine Evl.q_when (b := !isTup sd || !(match (motive := PyData → Bool) sd with | .tuple ss => decide (1 ≤ ss.length) && decide (ss.length ≤ 12) | _ => false)) ?_ (fun h3 H3 e3 => ?_) (fun h3 H3 e3 => ?_)
      · refine Evl.et_or (Evl.et_not (Evl.et_B (ev_isi (Evl.ev_var rfl) s2 (kb_tup sd)))) fun hs => ?_
        cases sd with
        | tuple ss =>
          obtain ⟨a2, ys, rfl, _, ha2, hy⟩ := s2.tup
          have e5 : (decide (1 ≤ ss.length) && decide (ss.length ≤ 12)) = (decide ((1 : Int) ≤ (ys.length : Int)) && decide ((ys.length : Int) ≤ 12)) := by
            rw [hy.length]
            congr 1 <;> exact decide_eq_decide.mpr ⟨fun _ => by omega, fun _ => by omega⟩
          refine Evl.et_not (Evl.et_test ?_)
          show Ev _ _ _ (.bl (decide (1 ≤ ss.length) && decide (ss.length ≤ 12)))
          rw [e5]
          exact ev_chain Evl.ev_c (ev_lenT (Evl.ev_var rfl) (Evl.st_of ha2)) Evl.rv_I0 (fun _ => Evl.ev_c) (fun _ => Evl.rv_I0)
        | _ => cases hs
      · have key : isRole tos (.tuple [sd, u]) = false := by
          cases sd with
          | tuple ss =>
            have h4 : (!(decide (1 ≤ ss.length) && decide (ss.length ≤ 12))) = true := h3
            show (decide (1 ≤ ss.length) && decide (ss.length ≤ 12) && _ && _) = false
            rw [Bool.not_eq_true'] at h4
            rw [h4, Bool.false_and, Bool.false_and]
          | _ => rfl
        rw [key] at q
        exact Evl.s_ret Evl.ev_c fun H4 e4 => q H4 ((e12.trans e3).trans e4)
      · cases sd with
        | tuple ss =>
          have h4 : (!(decide (1 ≤ ss.length) && decide (ss.length ≤ 12))) = false := h3
          have h5 : (decide (1 ≤ ss.length) && decide (ss.length ≤ 12)) = true := by simpa using h4
          have h12 : ss.length ≤ 12 := by
            rw [Bool.and_eq_true] at h5
            exact of_decide_eq_true h5.2
          obtain ⟨a2, ys, rfl, _, ha2, hy⟩ := s2.tup
          have key : isRole tos (.tuple [.tuple ss, u]) = (ss.all (isState tos ss.length) && isUps ("" :: srt (marksOf ss)) ss.length u) := by
            show (decide (1 ≤ ss.length) && decide (ss.length ≤ 12) && _ && _) = _
            rw [h5, Bool.true_and]
          rw [key] at q
          have e13 := e12.trans e3
          refine Evl.q_when (b := !(ss.all (isState tos ss.length))) (Evl.et_not (Evl.et_B (ev_allD (isState tos ss.length) (Evl.ev_var rfl) (e3 _ _ ha2) (DqL.same e3 hy) (fit_tup fs).1 (fun x => rfl) (fun d x H4 e4 hm hq => ?_)))) (fun h6 H4 e4 => ?_) (fun h6 H4 e4 => ?_)
          · refine ev_def (vs := [x, .int (ys.length : Int), .ref p]) (Evl.ea_cons (Evl.ev_var rfl) (Evl.ea_cons (ev_lenT (Evl.ev_var rfl) (Evl.ex_t e4 (Evl.st_of (e3 _ _ ha2)))) (Evl.ea_cons (Evl.ev_var rfl) Evl.ea_nil))) fun H5 e5 => ⟨D, d, x, ss.length, p, tos, by rw [hy.length], Dq.same e5 hq, fit_mem fs hm, Evl.ex_t e5 (Evl.ex_t e4 (Evl.ex_t e13 hp)), rfl⟩
          · rw [show ss.all (isState tos ss.length) = false by simpa using h6, Bool.false_and] at q
            exact Evl.s_ret Evl.ev_c fun H5 e5 => q H5 ((e13.trans e4).trans e5)
          · have h7 : ss.all (isState tos ss.length) = true := by simpa using h6
            rw [h7, Bool.true_and] at q
            obtain ⟨wf, few⟩ := states_ok h7 h12
            have e14 := e13.trans e4
            have ha4 := e4 _ _ (e3 _ _ ha2)
            refine ⟨_, rfl, (by show 1 ≤ sizeLine; decide), fun p1 hp1 => ?_⟩
            have ep1 : Ex H4 (upd H4 p1 (.tup [.str ""])) := Ex.new hp1
            refine ⟨_, rfl, D, ss, a2, ys, rfl, ep1 _ _ ha4, DqL.same (e3.trans (e4.trans ep1)) hy, wf, few, fun r H5 e5 hr5 hs hl5 h5r => ?_⟩
            have fin : ∀ (t : Addr) (H6 : Hp), Ex H5 H6 → H6 t = some (.tup (((("" : Str) :: srt (marksOf ss)).map V.str))) → (tCons (tCB (fun xs H Q => ∃ p ys, xs = [.ref p] ∧ (SqL K H p ys ∨ SqT K H p ys) ∧ Q (.int ys.length) H) (tCons (tVar 2) tNil)) tNil)
                (((start ["thing", "sends_to", "states", "ups", "state"] [.ref a, .ref p]).set 2 (some (.ref a2))).set 3 (some x2)) H6 fun xs H7 => spV (RUps K) ((x2 :: .ref t :: xs) ++ []) H7 Q E0 := fun t H6 e6 ht => by
              have e16 := ((e14.trans ep1).trans e5).trans e6
              refine ⟨_, rfl, a2, ys, rfl, .inr (Evl.ex_t ((ep1.trans e5).trans e6) (Evl.st_of ha4)), ?_⟩
              refine ⟨.bl (isUps ("" :: srt (marksOf ss)) ss.length u), ⟨D, u, x2, t, "" :: srt (marksOf ss), ss.length, by rw [hy.length]; rfl, Dq.same e16 d2, fu, Evl.st_of ht, rfl⟩, fun H7 e7 => q H7 (e16.trans e7)⟩
            refine ⟨p1, r, [.str ""], _, rfl, rfl, Evl.st_of (e5 _ _ upd_same), Evl.st_of h5r, by simp, ?_, fun he => ?_, fun hne t ht => ?_⟩
            · rw [List.length_map]
              exact Nat.le_trans (show 1 + (srt (marksOf ss)).length ≤ 5000 by omega) (by decide)
            · refine fin p1 H5 (Ex.refl H5) ?_
              rw [e5 _ _ upd_same]
              have e0 : srt (marksOf ss) = [] := List.map_eq_nil_iff.mp he
              rw [e0]
              rfl
            · exact fin t _ (Ex.new ht) (by rw [upd_same]; rfl)
        | _ => exact absurd h3 (by simp [isTup])
theorem isProt_off {d : PyData} (h : isTupN 2 d = false) : isProt d = false := by
  cases d with
  | tuple ds =>
    match ds with
    | [] => rfl
    | [_] => rfl
    | [_, _] => cases h
    | _ :: _ :: _ :: _ => rfl
  | _ => rfl
theorem sc_prot : FnScope ["thing"] ["thing"] (defScope (top 20)) := ⟨rfl, rfl, rfl, by decide +kernel, rfl, by decide +kernel, by decide +kernel⟩
theorem ok_prot (F : Def K mg "has_protocol_form" (top 20) ["thing"]) (C2 : Cst2 K mg) (c_is_tuple_of : Cal P w K mg base 1 "is_tuple_of" (spV RT)) (c_has_role_form : Cal P w K mg base 6 "has_role_form" (spV (RtoS K isRole))) : Cal P w K mg base 7 "has_protocol_form" (spV (R1f isProt)) := by
  refine Cal.of F sc_prot (len_spV fun vs H z ⟨D, d, v, h, _⟩ => by rw [h]; rfl) (fun f cdv A outer s H vs Q E hr h => ?_)
  obtain ⟨z, ⟨D, d, v, rfl, hd, hf, rfl⟩, q⟩ := h
  obtain ⟨aL, mL, sL⟩ := C2.LEADER_SENDS_TO
  obtain ⟨aM, mM, sM⟩ := C2.MEMBER_SENDS_TO
  refine ⟨_, (pss_cons (ps_if (pt_not (pt_val (pcall c_is_tuple_of hr (pa_cons (pv 0) (pa_cons pe_int pa_nil))))) (pss_one (ps_ret pe_bl)) pss_nil)
      (pss_one (ps_ret (pe_and (pcall c_has_role_form hr (pa_cons (pe_ix ix_tup (pv 0) pe_int (fun _ _ => rfl)) (pa_cons (pref mL) pa_nil))) (pe_one (pcall c_has_role_form hr (pa_cons (pe_ix ix_tup (pv 0) pe_int (fun _ _ => rfl)) (pa_cons (pref mM) pa_nil)))))))), ?_⟩
  refine Evl.q_when (b := !isTupN 2 d) (Evl.et_not (Evl.et_B (ev_tupN hd (Evl.ev_var rfl) Evl.ev_c))) (fun h1 H1 e1 => ?_) (fun h1 H1 e1 => ?_)
  · rw [isProt_off (by simpa using h1)] at q
    exact Evl.s_ret Evl.ev_c fun H2 e2 => q H2 (e1.trans e2)
  · obtain ⟨ds, rfl, hl⟩ := isTupN_iff (n := 2) (d := d) (by simpa using h1)
    match ds, hl with
    | [l, m], _ =>
      obtain ⟨a, xs, rfl, _, ha, hx⟩ := hd.tup
      obtain ⟨x1, x2, rfl, d1, d2⟩ := hx.two
      have fl : fit l = true := fit_mem hf (by simp)
      have fm : fit m = true := fit_mem hf (by simp)
      have st := Evl.ex_t (K := K) e1 (Evl.st_of ha)
      refine Evl.s_ret (v := .bl (isRole toL l && isRole toM m)) (Evl.ev_andV (ev_def (Evl.ea_cons (ev_ixT (i := 0) (Evl.ev_var rfl) Evl.ev_c st rfl) (Evl.ea_cons Evl.ev_c Evl.ea_nil)) fun H2 e2 => ⟨D, l, x1, aL, toL, rfl, Dq.same (e1.trans e2) d1, fl, sL _, rfl⟩) fun _ => ?_) fun H2 e2 => q H2 (e1.trans e2)
      exact ev_def (Evl.ea_cons (ev_ixT (i := 1) (Evl.ev_var rfl) Evl.ev_c st rfl) (Evl.ea_cons Evl.ev_c Evl.ea_nil)) fun H2 e2 => ⟨D, m, x2, aM, toM, rfl, Dq.same (e1.trans e2) d2, fm, sM _, rfl⟩
theorem sc_isprot : FnScope ["thing"] ["thing"] (defScope (top 33)) := ⟨rfl, rfl, rfl, by decide +kernel, rfl, by decide +kernel, by decide +kernel⟩
theorem ok_isprot (F : Def K mg "is_protocol" (top 33) ["thing"]) (c_has_protocol_form : Cal P w K mg base 7 "has_protocol_form" (spV (R1f isProt))) : Cal P w K mg base 8 "is_protocol" (spV (R1f isProt)) := by
  refine Cal.of F sc_isprot (len_spV fun vs H z ⟨D, d, v, h, _⟩ => by rw [h]; rfl) (fun f cdv A outer s H vs Q E hr h => ?_)
  obtain ⟨z, ⟨D, d, v, rfl, hd, hf, rfl⟩, q⟩ := h
  refine ⟨_, (pss_one (ps_ret (pcall c_has_protocol_form hr (pa_cons (pv 0) pa_nil)))), ?_⟩
  exact Evl.s_ret (ev_def (Evl.ea_cons (Evl.ev_var rfl) Evl.ea_nil) fun H1 e1 => ⟨D, d, v, rfl, Dq.same e1 hd, hf, rfl⟩) q
end
end Al
namespace Al
open PySem PySem.Spec PyProof.Rows L2
open Evl (Ex Ev EvT EvA EvL EvU SpV RV RC RCL)
/-! ### comparisons with what is empty; of lists of texts -/
def rNilL (K : PySem.W.Frag) (neg : Bool) : R2 := fun x y H Q => ∃ a b xs, x = .ref a ∧ y = .ref b ∧ SqL K H a xs ∧ SqL K H b [] ∧ Q (.bl (if neg then !xs.isEmpty else xs.isEmpty)) H
def rNilT (K : PySem.W.Frag) (neg : Bool) : R2 := fun x y H Q => ∃ a b xs, x = .ref a ∧ y = .ref b ∧ SqT K H a xs ∧ SqT K H b [] ∧ Q (.bl (if neg then !xs.isEmpty else xs.isEmpty)) H
def rStrsEq (K : PySem.W.Frag) : R2 := fun x y H Q => ∃ (a b : Addr) (xs ys : List Str), x = .ref a ∧ y = .ref b ∧ SqL K H a (xs.map V.str) ∧ SqL K H b (ys.map V.str) ∧ Q (.bl (decide (xs = ys))) H
theorem vals_nil {us : List Value} (r : Vals [] us) : us = [] := by cases r; rfl
section
variable {X : Cx}
theorem op_eqNilL (hu : X.A.units + 1 < cLine) : OpR X (compareOp .Eq) (rNilL X.K false) := by
  intro pins s σ H x y v u Q I rx ry h
  obtain ⟨a, b, xs, rfl, rfl, ha, hb, q⟩ := h
  cases rx; cases ry
  obtain ⟨its, r1, p1, _⟩ := I.list ha
  obtain ⟨its2, r2, p2, _⟩ := I.list hb
  have e2 := vals_nil r2
  subst e2
  cases xs with
  | nil =>
    have e1 := vals_nil r1
    subst e1
    exact SeqAt.RcAt.lists (e := fun _ => true) p1.isList p2.isList rfl (by omega) (fun j h1 h2 => absurd h1 (by simp)) X.prog X.w _ _ ⟨.bl _, H, I, rfl, q⟩
  | cons z zs =>
    have hl := r1.length
    exact SeqAt.RcAt.lists_lengths p1.isList p2.isList (by simp [← hl]) (by omega) X.prog X.w _ _ ⟨.bl _, H, I, rfl, q⟩
theorem op_neNilL (hu : X.A.units + 1 < cLine) : OpR X (compareOp .NotEq) (rNilL X.K true) := by
  intro pins s σ H x y v u Q I rx ry h
  obtain ⟨a, b, xs, rfl, rfl, ha, hb, q⟩ := h
  cases rx; cases ry
  obtain ⟨its, r1, p1, _⟩ := I.list ha
  obtain ⟨its2, r2, p2, _⟩ := I.list hb
  have e2 := vals_nil r2
  subst e2
  cases xs with
  | nil =>
    have e1 := vals_nil r1
    subst e1
    exact SeqAt.RcNeAt.lists (e := fun _ => true) p1.isList p2.isList rfl (by omega) (fun j h1 h2 => absurd h1 (by simp)) X.prog X.w _ _ ⟨.bl _, H, I, rfl, q⟩
  | cons z zs =>
    have hl := r1.length
    exact SeqAt.RcNeAt.lists_lengths p1.isList p2.isList (by simp [← hl]) (by omega) X.prog X.w _ _ ⟨.bl _, H, I, rfl, q⟩

theorem op_eqNilT (hu : X.A.units + 1 < cLine) : OpR X (compareOp .Eq) (rNilT X.K false) := by
  intro pins s σ H x y v u Q I rx ry h
  obtain ⟨a, b, xs, rfl, rfl, ha, hb, q⟩ := h
  cases rx; cases ry
  obtain ⟨its, r1, p1, _⟩ := I.tuple ha
  obtain ⟨its2, r2, p2, _⟩ := I.tuple hb
  have e2 := vals_nil r2
  subst e2
  have hl := r1.length
  refine SeqAt.RcAt.tuples (e := fun _ => true) p1 p2 (by omega) (fun j h1 h2 => absurd h2 (by simp)) X.prog X.w _ _ ⟨.bl _, H, I, rfl, ?_⟩
  cases xs with
  | nil =>
    have e1 := vals_nil r1
    subst e1
    exact q
  | cons z zs =>
    cases its with
    | nil => cases hl
    | cons i is =>
      have e : ((List.range (min (i :: is).toArray.size ([] : List Value).toArray.size)).all (fun _ => true) && (i :: is).toArray.size == ([] : List Value).toArray.size) = false := by simp
      rw [e]
      exact q
theorem op_neNilT (hu : X.A.units + 1 < cLine) : OpR X (compareOp .NotEq) (rNilT X.K true) := by
  intro pins s σ H x y v u Q I rx ry h
  obtain ⟨a, b, xs, rfl, rfl, ha, hb, q⟩ := h
  cases rx; cases ry
  obtain ⟨its, r1, p1, _⟩ := I.tuple ha
  obtain ⟨its2, r2, p2, _⟩ := I.tuple hb
  have e2 := vals_nil r2
  subst e2
  have hl := r1.length
  refine SeqAt.RcNeAt.tuples (e := fun _ => true) p1 p2 (by omega) (fun j h1 h2 => absurd h2 (by simp)) X.prog X.w _ _ ⟨.bl _, H, I, rfl, ?_⟩
  cases xs with
  | nil =>
    have e1 := vals_nil r1
    subst e1
    exact q
  | cons z zs =>
    cases its with
    | nil => cases hl
    | cons i is =>
      have e : (!((List.range (min (i :: is).toArray.size ([] : List Value).toArray.size)).all (fun _ => true) && (i :: is).toArray.size == ([] : List Value).toArray.size)) = true := by simp
      rw [e]
      exact q
theorem vals_str {zs : List Str} {us : List Value} (r : Vals (zs.map V.str) us) {j : Nat} (h : j < us.length) : ∃ z t, zs[j]? = some z ∧ us[j] = .str z t := by
  have hl := r.length
  rw [List.length_map] at hl
  obtain ⟨u, e, ru⟩ := r.get (i := j) (x := .str (zs[j]'(by omega))) (by rw [List.getElem?_map, List.getElem?_eq_getElem (by omega)]; rfl)
  rw [List.getElem?_eq_getElem h] at e
  obtain ⟨t, e2⟩ := ru
  exact ⟨_, t, List.getElem?_eq_getElem (by omega), by rw [Option.some.inj e]; exact e2⟩
theorem op_eqStrs (hu : X.A.units + 1 < cLine) : OpR X (compareOp .Eq) (rStrsEq X.K) := by
  intro pins s σ H x y v u Q I rx ry h
  obtain ⟨a, b, xs, ys, rfl, rfl, ha, hb, q⟩ := h
  cases rx; cases ry
  obtain ⟨its, r1, p1, _⟩ := I.list ha
  obtain ⟨its2, r2, p2, _⟩ := I.list hb
  have l1 := r1.length
  have l2 := r2.length
  rw [List.length_map] at l1 l2
  by_cases hl : xs.length = ys.length
  · have e : ((List.range its.toArray.size).all fun j => decide (xs[j]? = ys[j]?)) = decide (xs = ys) := by
      have e1 : its.toArray.size = xs.length := by rw [List.size_toArray, l1]
      rw [e1]
      by_cases he : xs = ys
      · subst he
        simp
      · rw [decide_eq_false he]
        rw [List.all_eq_false]
        refine Classical.byContradiction fun hc => he ?_
        apply List.ext_getElem? 
        intro j
        by_cases hj : j < xs.length
        · refine Classical.byContradiction fun hn => hc ⟨j, List.mem_range.mpr hj, by simp [hn]⟩
        · rw [List.getElem?_eq_none_iff.mpr (by omega), List.getElem?_eq_none_iff.mpr (by omega)]
    rw [← e] at q
    refine SeqAt.RcAt.lists (e := fun j => decide (xs[j]? = ys[j]?)) p1.isList p2.isList (by simp only [List.size_toArray]; omega) (by omega) (fun j h1 h2 => ?_) X.prog X.w _ _ ⟨.bl _, H, I, rfl, q⟩
    obtain ⟨z, t, gz, ez⟩ := vals_str r1 (j := j) (by simpa using h1)
    obtain ⟨z2, t2, gz2, ez2⟩ := vals_str r2 (j := j) (by simpa using h2)
    have f1 : its.toArray[j] = .str z t := by simpa using ez
    have f2 : its2.toArray[j] = .str z2 t2 := by simpa using ez2
    rw [f1, f2, gz, gz2]
    have e3 : decide (some z = some z2) = (z == z2) := by
      rw [Bool.beq_eq_decide_eq]
      exact decide_eq_decide.mpr ⟨fun e => Option.some.inj e, fun e => by rw [e]⟩
    rw [e3]
    exact SeqAt.EqAt.str_str z t z2 t2
  · have e : decide (xs = ys) = false := decide_eq_false fun z => hl (by rw [z])
    rw [e] at q
    exact SeqAt.RcAt.lists_lengths p1.isList p2.isList (by simp only [List.size_toArray]; simp; omega) (by omega) X.prog X.w _ _ ⟨.bl _, H, I, rfl, q⟩
end
section
variable {K : PySem.W.Frag} {H : Hp}
theorem rv_nilT {a b : Addr} {xs : List V} (ha : SqT K H a xs) (hb : SqT K H b []) : RV (rNilT K false) (.ref a) (.ref b) H (.bl xs.isEmpty) := fun H1 e _ q => ⟨a, b, xs, rfl, rfl, Evl.ex_t e ha, Evl.ex_t e hb, q H1 (Ex.refl H1)⟩
theorem rv_nnilT {a b : Addr} {xs : List V} (ha : SqT K H a xs) (hb : SqT K H b []) : RV (rNilT K true) (.ref a) (.ref b) H (.bl (!xs.isEmpty)) := fun H1 e _ q => ⟨a, b, xs, rfl, rfl, Evl.ex_t e ha, Evl.ex_t e hb, q H1 (Ex.refl H1)⟩
theorem rv_nnilL {a b : Addr} {xs : List V} (ha : SqL K H a xs) (hb : SqL K H b []) : RV (rNilL K true) (.ref a) (.ref b) H (.bl (!xs.isEmpty)) := fun H1 e _ q => ⟨a, b, xs, rfl, rfl, Evl.ex_l e ha, Evl.ex_l e hb, q H1 (Ex.refl H1)⟩
theorem rv_nilL {a b : Addr} {xs : List V} (ha : SqL K H a xs) (hb : SqL K H b []) : RV (rNilL K false) (.ref a) (.ref b) H (.bl xs.isEmpty) := fun H1 e _ q => ⟨a, b, xs, rfl, rfl, Evl.ex_l e ha, Evl.ex_l e hb, q H1 (Ex.refl H1)⟩
theorem rv_strs {a b : Addr} {xs ys : List Str} (ha : SqL K H a (xs.map V.str)) (hb : SqL K H b (ys.map V.str)) : RV (rStrsEq K) (.ref a) (.ref b) H (.bl (decide (xs = ys))) := fun H1 e _ q => ⟨a, b, xs, ys, rfl, rfl, Evl.ex_l e ha, Evl.ex_l e hb, q H1 (Ex.refl H1)⟩
end
end Al
namespace Al
open PySem PySem.Spec PyProof.Rows L2
open Evl (Ex Ev EvT EvA EvL EvU SpV RV RC RCL)
section
variable {K : PySem.W.Frag} {σ : L2.St} {H : Hp} {ta tb tc te tl : TE} {t : TT} {x y z v : V}
/-- f(x, (a, b, ..)), the tuple made there -/
theorem ev_callU {R : List V → Hp → V → Prop} {xs : List V} {E : XK} (ha : Ev ta σ H x) (hb : EvU tb σ H xs) (hR : ∀ p H1, Ex H H1 → H1 p = some (.tup xs) → R [x, .ref p] H1 z) : Ev (tCall (spV R) [] E (tCons ta (tCons tb tNil))) σ H z := fun H1 e Q q =>
  ha H1 e _ fun H2 e2 => hb H2 (e.trans e2) _ fun p H3 _ e3 hp => ⟨z, hR p H3 ((e.trans e2).trans e3) hp, fun H4 e4 => q H4 ((e2.trans e3).trans e4)⟩
theorem eu_if {b : Bool} {xs : List V} (h : EvT t σ H b) (h1 : b = true → EvU ta σ H xs) (h2 : b = false → EvU tb σ H xs) : EvU (tIf t ta tb) σ H xs := fun H1 e Q q => h H1 e _ fun H2 e2 => by
  cases b with
  | true => exact iteT (h1 rfl H2 (e.trans e2) Q fun p H3 hp e3 h3 => q p H3 (Evl.fresh_back e2 hp) (e2.trans e3) h3)
  | false => exact iteF (h2 rfl H2 (e.trans e2) Q fun p H3 hp e3 h3 => q p H3 (Evl.fresh_back e2 hp) (e2.trans e3) h3)
end
def lawL (b : Bool) : List Str := if b then toL else toM
theorem anyS_str {zs : List Str} {d : PyData} (h : isStr d = false) : anyS zs d = false := by
  cases d with
  | str z => cases h
  | _ => 
    unfold anyS
    rw [List.any_eq_false]
    intro z _
    simp [isS]
def RIn : List V → Hp → V → Prop := fun vs H z => ∃ (D : Ban) (d : PyData) (v : V) (n : Int), vs = [v, .int n] ∧ Dq D H d v ∧ z = .bl (isIn 0 (n - 1) d)
section
variable {P : Program} {w : World} {K : PySem.W.Frag} {mg : Str → Option Value} {base : Heap}
theorem sc_l_int : FnScope ["_law_thing"] ["_law_thing"] (defScope (top 39)) := ⟨rfl, rfl, rfl, by decide +kernel, rfl, by decide +kernel, by decide +kernel⟩
theorem ok_l_int (F : Def K mg "_law_is_integer" (top 39) ["_law_thing"]) (B : Bl mg) : Cal P w K mg base 1 "_law_is_integer" (spV (R1 isInt)) := by
  refine Cal.of F sc_l_int (len_spV fun vs H z ⟨D, d, v, e, _⟩ => by rw [e]; rfl) (fun f cdv A outer s H vs Q E hr h => ?_)
  obtain ⟨z, ⟨D, d, v, rfl, hd, rfl⟩, q⟩ := h
  refine ⟨_, (pss_one (ps_ret (pe_and (pe_callB call_isi (by rfl) B.isinstance b_isinstance (pa_cons (pv 0) (pa_cons (pty B.int b_int) pa_nil))) (pe_one (pe_not (pe_callB call_isi (by rfl) B.isinstance b_isinstance (pa_cons (pv 0) (pa_cons (pty B.bool b_bool) pa_nil)))))))), ?_⟩
  rw [← isInt_eq] at q
  exact Evl.s_ret (Evl.ev_andV (ev_isi (Evl.ev_var rfl) hd (kb_int d)) fun _ => Evl.ev_notV (ev_isi (Evl.ev_var rfl) hd (kb_bool d))) q
theorem sc_l_place : FnScope ["_law_thing", "_law_many"] ["_law_thing", "_law_many"] (defScope (top 45)) := ⟨rfl, rfl, rfl, by decide +kernel, rfl, by decide +kernel, by decide +kernel⟩
theorem ok_l_place (F : Def K mg "_law_is_place" (top 45) ["_law_thing", "_law_many"]) (c__law_is_integer : Cal P w K mg base 1 "_law_is_integer" (spV (R1 isInt))) : Cal P w K mg base 2 "_law_is_place" (spV RIn) := by
  refine Cal.of F sc_l_place (len_spV fun vs H z ⟨D, d, v, n, e, _⟩ => by rw [e]; rfl) (fun f cdv A outer s H vs Q E hr h => ?_)
  obtain ⟨z, ⟨D, d, v, n, rfl, hd, rfl⟩, q⟩ := h
  refine ⟨_, (pss_one (ps_ret (pe_and (pcall c__law_is_integer hr (pa_cons (pv 0) pa_nil)) (pe_one (pe_chain op_le op_lt pe_int (pv 0) (pv 1)))))), ?_⟩
  have key : isIn 0 (n - 1) d = (isInt d && (match (motive := PyData → Bool) d with | .int i => decide ((0 : Int) ≤ i) && decide (i < n) | _ => false)) := by
    cases d with
    | int i =>
      show (decide ((0 : Int) ≤ i) && decide (i ≤ n - 1)) = (true && (decide ((0 : Int) ≤ i) && decide (i < n)))
      rw [Bool.true_and]
      congr 1
      exact decide_eq_decide.mpr ⟨fun _ => by omega, fun _ => by omega⟩
    | _ => rfl
  rw [key] at q
  refine Evl.s_ret (Evl.ev_andV (ev_def (Evl.ea_cons (Evl.ev_var rfl) Evl.ea_nil) fun H1 e => ⟨D, d, v, rfl, Dq.same e hd, rfl⟩) fun h1 => ?_) q
  cases d with
  | int i =>
    unfold Dq at hd
    subst hd
    exact ev_chain Evl.ev_c (Evl.ev_var rfl) Evl.rv_I0 (fun _ => Evl.ev_var rfl) (fun _ => Evl.rv_I0)
  | _ => cases h1
theorem sc_l_text : FnScope ["_law_thing", "_law_some"] ["_law_thing", "_law_some"] (defScope (top 44)) := ⟨rfl, rfl, rfl, by decide +kernel, rfl, by decide +kernel, by decide +kernel⟩
theorem ok_l_text (F : Def K mg "_law_is_text" (top 44) ["_law_thing", "_law_some"]) (B : Bl mg) : Cal P w K mg base 1 "_law_is_text" (spV (RtoS K anyS)) := by
  refine Cal.of F sc_l_text (len_spV fun vs H z ⟨D, d, v, p, tos, h, _⟩ => by rw [h]; rfl) (fun f cdv A outer s H vs Q E hr h => ?_)
  obtain ⟨z, ⟨D, d, v, p, tos, rfl, hd, hf, hp, rfl⟩, q⟩ := h
  refine ⟨_, (pss_one (ps_ret (pe_and (pe_callB call_isi (by rfl) B.isinstance b_isinstance (pa_cons (pv 0) (pa_cons (pty B.str b_str) pa_nil))) (pe_one (pe_cmpR (op_inS (hu1 hr)) (pv 0) (pv 1) (by rfl)))))), ?_⟩
  have key : anyS tos d = (isStr d && anyS tos d) := by
    cases h : isStr d with
    | true => rfl
    | false => rw [anyS_str h]; rfl
  rw [key] at q
  exact Evl.s_ret (Evl.ev_andV (ev_isi (Evl.ev_var rfl) hd (kb_str d)) fun _ => Evl.ev_op (Evl.ev_var rfl) (Evl.ev_var rfl) (rv_inS hd hp)) q
theorem sc_l_word : FnScope ["_law_thing", "_law_x"] ["_law_thing"] (defScope (top 43)) := ⟨rfl, rfl, rfl, by decide +kernel, rfl, by decide +kernel, by decide +kernel⟩
theorem none_left (z : Str) (p : Nat → Bool) : (Evl.given z.cps.size (fun i => !p (z.cps[i]?.getD 0)) (fun i => V.str ⟨#[z.cps[i]?.getD 0]⟩)).isEmpty = z.cps.toList.all p := by
  rw [← all_signs z p]
  unfold Evl.given
  rw [List.all_map, List.isEmpty_map]
  cases h : ((List.range z.cps.size).all (id ∘ fun i => p (z.cps[i]?.getD 0))) with
  | true =>
    rw [List.isEmpty_iff, List.filter_eq_nil_iff]
    intro i hi
    have q := List.all_eq_true.mp h i hi
    have q' : p (z.cps[i]?.getD 0) = true := q
    rw [q']
    decide
  | false =>
    obtain ⟨i, hi, q⟩ := List.all_eq_false.mp h
    rw [Bool.eq_false_iff]
    intro he
    rw [List.isEmpty_iff, List.filter_eq_nil_iff] at he
    have q2 := he i hi
    have q' : ¬ p (z.cps[i]?.getD 0) = true := q
    rw [Bool.not_eq_true] at q'
    rw [q'] at q2
    exact q2 rfl
theorem ok_l_word (F : Def K mg "_law_is_word" (top 43) ["_law_thing"]) (B : Bl mg) : Cal P w K mg base 1 "_law_is_word" (spV RW) := by
  refine Cal.of F sc_l_word (len_spV fun vs H z ⟨D, d, v, e, _⟩ => by rw [e]; rfl) (fun f cdv A outer s H vs Q E hr h => ?_)
  obtain ⟨z, ⟨D, d, v, rfl, hd, hf, rfl⟩, q⟩ := h
  refine ⟨_, (pss_cons (ps_if (PW.pt (pw_or (pt_not (pt_val (pe_callB call_isi (by rfl) B.isinstance b_isinstance (pa_cons (pv 0) (pa_cons (pty B.str b_str) pa_nil))))) (pw_or1 (pt_not (pt_chain op_lt op_lt pe_int (pe_callB call_len_str (by rfl) B.len b_len (pa_cons (pv 0) pa_nil)) pe_int))))) (pss_one (ps_ret pe_bl)) pss_nil)
      (pss_one (ps_ret (pe_cmpR (op_eqNilL (hu1 hr)) (pe_lc (own := [("_law_x", 1)]) (g := gName 1) (te := tVar 1) (tt := tTest (tOp (fun x y H Q => ∃ (c : Nat) (z : Str), x = .str ⟨#[c]⟩ ∧ y = .str z ∧ Q (.bl (!decide (c ∈ z.cps.toList))) H) (tVar 1) (tC (.str abc)))) rfl sc_l_word.nd (pi_str (pv 0)) (blkOk_by (N := ["_law_thing", "_law_x"]) (sc := defScope (top 43)) (by decide +kernel)) (fun _ _ _ _ _ => pg_name (i := 1) sc_l_word.nd rfl (Or.inl rfl)) (fun _ _ _ _ _ => pts_one (pt_cmpR op_notIn_sign (pv 1) pe_str (by rfl)))
        (fun _ _ _ _ _ => pv 1)) (pe_lst pa_nil) (nomark _))))), ?_⟩
  refine Evl.q_when (b := !isStr d || !(match (motive := PyData → Bool) d with | .str z => decide (1 ≤ z.length) && decide (z.length ≤ 10) | _ => false)) ?_ ?_ ?_
  · refine Evl.et_or (Evl.et_not (Evl.et_B (ev_isi (Evl.ev_var rfl) hd (kb_str d)))) fun hs => ?_
    cases d with
    | str z =>
      unfold Dq at hd
      subst hd
      have hz : z.length ≤ 40000 := of_decide_eq_true hf
      refine Evl.et_not (Evl.et_test ?_)
      have e3 : (decide (1 ≤ z.length) && decide (z.length ≤ 10)) = (decide ((0 : Int) < (z.length : Int)) && decide ((z.length : Int) < 11)) := by
        congr 1 <;> exact decide_eq_decide.mpr ⟨fun _ => by omega, fun _ => by omega⟩
      show Ev _ _ _ (.bl (decide (1 ≤ z.length) && decide (z.length ≤ 10)))
      rw [e3]
      exact ev_chain Evl.ev_c (ev_lenS (Evl.ev_var rfl) (Nat.le_trans hz (by decide))) Evl.rv_I0 (fun _ => Evl.ev_c) (fun _ => Evl.rv_I0)
    | _ => cases hs
  · intro hb H1 e1
    refine Evl.s_ret Evl.ev_c fun H2 e2 => ?_
    have e4 : isWord d = false := by
      cases d with
      | str z =>
        show (decide (1 ≤ z.length) && decide (z.length ≤ 10) && _) = false
        have hb' : (!(decide (1 ≤ z.length) && decide (z.length ≤ 10))) = true := hb
        rw [Bool.not_eq_true'] at hb'
        rw [hb', Bool.false_and]
      | _ => rfl
    rw [← e4]
    exact q H2 (e1.trans e2)
  · intro hb H1 e1
    cases d with
    | str z =>
      unfold Dq at hd
      subst hd
      have hz : z.length ≤ 40000 := of_decide_eq_true hf
      have hb' : (decide (1 ≤ z.length) && decide (z.length ≤ 10)) = true := by
        have hb2 : (!(decide (1 ≤ z.length) && decide (z.length ≤ 10))) = false := hb
        simpa using hb2
      have e5 : isWord (.str z) = (Evl.given z.cps.size (fun i => !decide (z.cps[i]?.getD 0 ∈ abc.cps.toList)) (fun i => V.str ⟨#[z.cps[i]?.getD 0]⟩)).isEmpty := by
        rw [none_left z fun c => decide (c ∈ abc.cps.toList)]
        show (decide (1 ≤ z.length) && decide (z.length ≤ 10) && _) = _
        rw [hb', Bool.true_and]
      rw [e5] at q
      refine Evl.s_ret ?_ fun H2 e2 => q H2 (e1.trans e2)
      refine Evl.ev_opLL (el_lcS _ _ (Evl.ev_var rfl) hz (fun x => rfl) (fun i c H2 e2 hc => ?_) (fun i c H2 e2 hc _ => ?_)) (Evl.el_lst Evl.ea_nil (by decide)) (fun p q' H2 h1 h2 _ => rv_nilL (Evl.sq_of h1) (Evl.sq_of h2))
      · rw [hc]
        exact Evl.et_test (Evl.ev_op (Evl.ev_var rfl) Evl.ev_c fun H3 e3 Q' q' => ⟨c, abc, rfl, rfl, q' H3 (Ex.refl H3)⟩)
      · rw [hc]
        exact Evl.ev_var rfl
    | _ => cases hb
end
end Al
namespace Al
open PySem PySem.Spec PyProof.Rows L2
open Evl (Ex Ev EvT EvA EvL EvU SpV RV RC RCL)
/-! ### the law's look at rules is the one of roles.py -/
def five : List Str := ["able", "unable", "timer", "each", "some"]
theorem any_five (d : PyData) : anyS five d = (anyS plain d || anyS kinds d) := by
  show (plain ++ kinds).any (fun z => isS z d) = _
  exact List.any_append
theorem kind_no_plain {d : PyData} (h : anyS kinds d = true) : anyS plain d = false := by
  obtain ⟨z, hz, e⟩ := List.any_eq_true.mp h
  rw [isS_iff] at e
  subst e
  rcases List.mem_cons.mp hz with e | hz
  · rw [e]; rfl
  · rw [List.mem_singleton.mp hz]; rfl
def cut2 (cs : List PyData) : Bool := cs.isEmpty || !anyS five (cs[0]?.getD .none)
def cut3 (cs : List PyData) : Bool := !decide (cs.length = if anyS kinds (cs[0]?.getD .none) = true then 2 else 1) || (decide (cs.length = 2) && !isWord (cs[1]?.getD .none))
theorem cause_eq (cs : List PyData) : isCause (.tuple cs) = (!cut2 cs && !cut3 cs) := by
  match cs with
  | [] => rfl
  | [a] =>
    show anyS plain a = (!(false || !anyS five a) && !(!decide (1 = if anyS kinds a = true then 2 else 1) || (decide (1 = 2) && _)))
    rw [any_five]
    rcases Bool.eq_false_or_eq_true (anyS kinds a) with hk | hk
    · simp [hk, kind_no_plain hk]
    · simp [hk]
  | [a, b] =>
    show (anyS kinds a && isWord b) = (!(false || !anyS five a) && !(!decide (2 = if anyS kinds a = true then 2 else 1) || (decide (2 = 2) && !isWord b)))
    rw [any_five]
    rcases Bool.eq_false_or_eq_true (anyS kinds a) with hk | hk
    · simp [hk]
    · simp [hk]
  | a :: b :: c :: r =>
    have e : cut3 (a :: b :: c :: r) = true := by
      show (!decide ((a :: b :: c :: r).length = if anyS kinds a = true then 2 else 1) || _) = true
      rw [decide_eq_false, Bool.not_false, Bool.true_or]
      simp only [List.length_cons]
      split <;> omega
    rw [e, Bool.not_true, Bool.and_false]
    rfl
def cut4 (m f : PyData) : Bool := !isStr m || ((!isS "" m && !isWord m) || (!isBl f || (isS "" m && (match (motive := PyData → Bool) f with | .bool b => b | _ => false))))
theorem word_ne {m : PyData} (h : isS "" m = true) : isWord m = false := by
  rw [isS_iff.mp h]
  rfl
theorem marking_eq (m f : PyData) : isMarking m f = !cut4 m f := by
  cases f with
  | bool b =>
    show (isWord m || (isS "" m && !b)) = !(!isStr m || ((!isS "" m && !isWord m) || (false || (isS "" m && b))))
    cases hs : isStr m with
    | true =>
      cases h0 : isS "" m with
      | true => rw [word_ne h0]; cases b <;> rfl
      | false => cases isWord m <;> rfl
    | false =>
      cases m with
      | str z => cases hs
      | _ => rfl
  | _ =>
    show false = _
    unfold cut4
    cases isStr m <;> simp [isBl]
def cut1 (d : PyData) : Bool := !isTup d || (!isTupN 5 d || (match (motive := PyData → Bool) d with | .tuple ds => !isTup (ds[0]?.getD .none) || !isTup (ds[3]?.getD .none) | _ => false))
theorem isLetters_notup {tos : List Str} {d : PyData} (h : isTup d = false) : isLetters tos d = false := by
  cases d with
  | tuple ds => cases h
  | _ => rfl
theorem isCause_notup {d : PyData} (h : isTup d = false) : isCause d = false := by
  cases d with
  | tuple ds => cases h
  | _ => rfl
theorem cut1_off {tos : List Str} {n : Int} {d : PyData} (h : cut1 d = true) : isRule tos n d = false := by
  cases h5 : isTupN 5 d with
  | false => exact isRule_off h5
  | true =>
    obtain ⟨ds, rfl, hl⟩ := isTupN_iff (n := 5) h5
    match ds, hl with
    | [c, m, f, l, g], _ =>
      have h' : (!isTup c || !isTup l) = true := by
        have q : (!true || (!isTupN 5 (.tuple [c, m, f, l, g]) || (!isTup c || !isTup l))) = true := h
        rw [h5] at q
        exact q
      show (isCause c && (isMarking m f && (isLetters tos l && _))) = false
      cases hc : isTup c with
      | false => rw [isCause_notup hc, Bool.false_and]
      | true =>
        rw [hc] at h'
        have hl2 : isTup l = false := by simpa using h'
        rw [isLetters_notup hl2, Bool.false_and, Bool.and_false, Bool.and_false]
def cutL (p : PyData) : Bool := !isTup p || (!isTupN 2 p || (match (motive := PyData → Bool) p with | .tuple ds => !isWord (ds[0]?.getD .none) | _ => false))
theorem letter_eq {tos : List Str} (p : PyData) : isLetter tos p = (!cutL p && (match (motive := PyData → Bool) p with | .tuple ds => anyS tos (ds[1]?.getD .none) | _ => false)) := by
  cases p with
  | tuple ds =>
    match ds with
    | [] => rfl
    | [a] => rfl
    | [a, b] =>
      show (isWord a && anyS tos b) = (!(false || (!true || !isWord a)) && anyS tos b)
      cases isWord a <;> rfl
    | a :: b :: c :: r =>
      have e : isTupN 2 (.tuple (a :: b :: c :: r)) = false := by
        show decide (((a :: b :: c :: r).length : Int) = 2) = false
        exact decide_eq_false (by simp only [List.length_cons]; omega)
      show false = (!(false || (!isTupN 2 (.tuple (a :: b :: c :: r)) || _)) && _)
      rw [e]
      rfl
  | _ => rfl
def RLr : List V → Hp → V → Prop := fun vs H z => ∃ (D : Ban) (d : PyData) (v : V) (b : Bool) (n : Int), vs = [v, .bl b, .int n] ∧ Dq D H d v ∧ fit d = true ∧ z = .bl (isRule (lawL b) n d)
section
variable {K : PySem.W.Frag} {σ : L2.St} {H : Hp} {ta tb tc te tl : TE} {t : TT} {x y z v : V}
theorem ev_textD {E : XK} {D : Ban} {d : PyData} {zs : List Str} (hd : Dq D H d x) (hf : fit d = true) (ha : Ev ta σ H x) (hb : EvU tb σ H (zs.map V.str)) : Ev (tCall (spV (RtoS K anyS)) [] E (tCons ta (tCons tb tNil))) σ H (.bl (anyS zs d)) :=
  ev_callU ha hb fun p H1 e hp => ⟨D, d, x, p, zs, rfl, Dq.same e hd, hf, Evl.st_of hp, rfl⟩
/-- len(x) != n, x a tuple -/
theorem et_lenNe {D : Ban} {ds : List PyData} {n : Nat} (hd : Dq D H (.tuple ds) x) (ha : Ev ta σ H x) (hb : Ev tb σ H (.int (n : Int))) : EvT (tTest (tOp rNe (tCB (rLn K) (tCons ta tNil)) tb)) σ H (!decide (ds.length = n)) := by
  obtain ⟨a, xs, rfl, _, hx, hl⟩ := hd.tup
  have e : (!decide (ds.length = n)) = (!decide (V.int (xs.length : Int) = V.int (n : Int))) := by
    rw [hl.length]
    congr 1
    exact decide_eq_decide.mpr ⟨fun e => by rw [e], fun e => by have q := V.int.inj e; omega⟩
  rw [e]
  exact Evl.et_test (Evl.ev_op (ev_lenT ha (Evl.st_of hx)) hb (Evl.rv_ne rfl))
theorem et_lenEq {D : Ban} {ds : List PyData} {n : Nat} (hd : Dq D H (.tuple ds) x) (ha : Ev ta σ H x) (hb : Ev tb σ H (.int (n : Int))) : EvT (tTest (tOp rEq (tCB (rLn K) (tCons ta tNil)) tb)) σ H (decide (ds.length = n)) := by
  obtain ⟨a, xs, rfl, _, hx, hl⟩ := hd.tup
  have e : (decide (ds.length = n)) = (decide (V.int (xs.length : Int) = V.int (n : Int))) := by
    rw [hl.length]
    exact decide_eq_decide.mpr ⟨fun e => by rw [e], fun e => by have q := V.int.inj e; omega⟩
  rw [e]
  exact Evl.et_test (Evl.ev_op (ev_lenT ha (Evl.st_of hx)) hb (Evl.rv_eq rfl))
theorem et_lenGt {D : Ban} {ds : List PyData} {n : Nat} (hd : Dq D H (.tuple ds) x) (ha : Ev ta σ H x) (hb : Ev tb σ H (.int (n : Int))) : EvT (tTest (tOp (rI0 fun i j => .bl (decide (j < i))) (tCB (rLn K) (tCons ta tNil)) tb)) σ H (decide (n < ds.length)) := by
  obtain ⟨a, xs, rfl, _, hx, hl⟩ := hd.tup
  have e : (decide (n < ds.length)) = decide ((n : Int) < (xs.length : Int)) := by
    rw [hl.length]
    exact decide_eq_decide.mpr ⟨fun _ => by omega, fun _ => by omega⟩
  rw [e]
  exact Evl.et_test (Evl.ev_op (ev_lenT ha (Evl.st_of hx)) hb Evl.rv_I0)
/-- an item of a tuple of data -/
theorem ev_item {D : Ban} {ds : List PyData} {i : Nat} {d : PyData} (hd : Dq D H (.tuple ds) x) (h : ds[i]? = some d) : ∃ u, Dq D H d u ∧ ∀ {H1 : Hp}, Ex H H1 → ∀ {ta tb : TE}, Ev ta σ H1 x → Ev tb σ H1 (.int (i : Int)) → Ev (tOp (rIxT K) ta tb) σ H1 u := by
  obtain ⟨a, xs, rfl, _, hx, hl⟩ := hd.tup
  obtain ⟨u, hu, hq⟩ := hl.get h
  refine ⟨u, hq, ?_⟩
  intro H1 e ta tb h1 h2
  exact ev_ixT h1 h2 (Evl.ex_t e (Evl.st_of hx)) hu
end
section
variable {P : Program} {w : World} {K : PySem.W.Frag} {mg : Str → Option Value} {base : Heap}
theorem sc_l_rule : FnScope ["_law_thing", "_law_is_leader", "_law_many", "_law_cause", "_law_mark", "_law_forced", "_law_letters", "_law_to", "_law_pair"] ["_law_thing", "_law_is_leader", "_law_many"] (defScope (top 46)) := ⟨rfl, rfl, rfl, by decide +kernel, rfl, by decide +kernel, by decide +kernel⟩
set_option maxHeartbeats 4000000 in
theorem ok_l_rule (F : Def K mg "_law_is_rule" (top 46) ["_law_thing", "_law_is_leader", "_law_many"]) (B : Bl mg) (c__law_is_text : Cal P w K mg base 1 "_law_is_text" (spV (RtoS K anyS))) (c__law_is_word : Cal P w K mg base 1 "_law_is_word" (spV RW))
    (c__law_is_place : Cal P w K mg base 2 "_law_is_place" (spV RIn)) : Cal P w K mg base 3 "_law_is_rule" (spV RLr) := by
  refine Cal.of F sc_l_rule (len_spV fun vs H z ⟨D, d, v, b, n, h, _⟩ => by rw [h]; rfl) (fun f cdv A outer s H vs Q E hr h => ?_)
  obtain ⟨z, ⟨D, d, v, b, n, rfl, hd, hf, rfl⟩, q⟩ := h
  refine ⟨_, (pss_cons (ps_if (PW.pt (pw_or (pt_not (pt_val (pe_callB call_isi (by rfl) B.isinstance b_isinstance (pa_cons (pv 0) (pa_cons (pty B.tuple b_tuple) pa_nil))))) (pw_or (pt_cmpR op_ne (pe_callB call_len_seq (by rfl) B.len b_len (pa_cons (pv 0) pa_nil)) pe_int (nomark _)) (pw_or (pt_not (pt_val (pe_callB call_isi (by rfl) B.isinstance b_isinstance (pa_cons (pe_ix ix_tup (pv 0) pe_int (fun _ _ => rfl)) (pa_cons (pty B.tuple b_tuple) pa_nil))))) (pw_or1 (pt_not (pt_val (pe_callB call_isi (by rfl) B.isinstance b_isinstance (pa_cons (pe_ix ix_tup (pv 0) pe_int (fun _ _ => rfl)) (pa_cons (pty B.tuple b_tuple) pa_nil)))))))))) (pss_one (ps_ret pe_bl)) pss_nil)
      (pss_cons (ps_asg (pv 0) (pg_tup rfl (pgs_cons (pg_name (i := 3) sc_l_rule.nd rfl (.inl rfl)) (pgs_cons (pg_name (i := 4) sc_l_rule.nd rfl (.inl rfl)) (pgs_cons (pg_name (i := 5) sc_l_rule.nd rfl (.inl rfl)) (pgs_cons (pg_name (i := 6) sc_l_rule.nd rfl (.inl rfl)) (pgs_cons (pg_name (i := 7) sc_l_rule.nd rfl (.inl rfl)) pgs_nil)))))))
      (pss_cons (ps_if (PW.pt (pw_or (pt_cmpR (op_eqNilT (hu1 hr)) (pv 3) (pe_tup pa_nil) (nomark _)) (pw_or1 (pt_not (pt_val (pcall c__law_is_text hr (pa_cons (pe_ix ix_tup (pv 3) pe_int (fun _ _ => rfl)) (pa_cons (pe_tup (pa_cons pe_str (pa_cons pe_str (pa_cons pe_str (pa_cons pe_str (pa_cons pe_str pa_nil)))))) pa_nil)))))))) (pss_one (ps_ret pe_bl)) pss_nil)
      (pss_cons (ps_if (PW.pt (pw_or (pt_cmpR op_ne (pe_callB call_len_seq (by rfl) B.len b_len (pa_cons (pv 3) pa_nil)) (pe_ifExp (pt_cmpR (op_inS (hu1 hr)) (pe_ix ix_tup (pv 3) pe_int (fun _ _ => rfl)) (pe_tup (pa_cons pe_str (pa_cons pe_str pa_nil))) (by rfl)) pe_int pe_int) (nomark _)) (pw_or1 (PW.pt (pw_and (pt_cmpR op_eq (pe_callB call_len_seq (by rfl) B.len b_len (pa_cons (pv 3) pa_nil)) pe_int (nomark _)) (pw_and1 (pt_not (pt_val (pcall c__law_is_word hr (pa_cons (pe_ix ix_tup (pv 3) pe_int (fun _ _ => rfl)) pa_nil)))))))))) (pss_one (ps_ret pe_bl)) pss_nil)
      (pss_cons (ps_if (PW.pt (pw_or (pt_not (pt_val (pe_callB call_isi (by rfl) B.isinstance b_isinstance (pa_cons (pv 4) (pa_cons (pty B.str b_str) pa_nil))))) (pw_or (PW.pt (pw_and (pt_cmpR op_ne (pv 4) pe_str (nomark _)) (pw_and1 (pt_not (pt_val (pcall c__law_is_word hr (pa_cons (pv 4) pa_nil))))))) (pw_or (pt_not (pt_val (pe_callB call_isi (by rfl) B.isinstance b_isinstance (pa_cons (pv 5) (pa_cons (pty B.bool b_bool) pa_nil))))) (pw_or1 (PW.pt (pw_and (pt_cmpR op_eq (pv 4) pe_str (nomark _)) (pw_and1 (pt_val (pv 5)))))))))) (pss_one (ps_ret pe_bl)) pss_nil)
      (pss_cons (ps_if (PW.pt (pw_or (pt_cmpR op_gt (pe_callB call_len_seq (by rfl) B.len b_len (pa_cons (pv 6) pa_nil)) pe_int (nomark _)) (pw_or1 (pt_not (pt_val (pcall c__law_is_place hr (pa_cons (pv 7) (pa_cons (pv 2) pa_nil)))))))) (pss_one (ps_ret pe_bl)) pss_nil)
      (pss_cons (ps_for PassesOwn.never rfl (pi_tup (pv 6)) (pg_name (i := 8) sc_l_rule.nd rfl (.inl rfl)) (pss_cons (ps_if (PW.pt (pw_or (pt_not (pt_val (pe_callB call_isi (by rfl) B.isinstance b_isinstance (pa_cons (pv 8) (pa_cons (pty B.tuple b_tuple) pa_nil))))) (pw_or (pt_cmpR op_ne (pe_callB call_len_seq (by rfl) B.len b_len (pa_cons (pv 8) pa_nil)) pe_int (nomark _)) (pw_or1 (pt_not (pt_val (pcall c__law_is_word hr (pa_cons (pe_ix ix_tup (pv 8) pe_int (fun _ _ => rfl)) pa_nil)))))))) (pss_one (ps_ret pe_bl)) pss_nil)
      (pss_one (ps_if (pt_not (pt_val (pcall c__law_is_text hr (pa_cons (pe_ix ix_tup (pv 8) pe_int (fun _ _ => rfl)) (pa_cons (pe_ifExp (pt_val (pv 1)) (pe_tup (pa_cons pe_str (pa_cons pe_str pa_nil))) (pe_tup (pa_cons pe_str (pa_cons pe_str (pa_cons pe_str pa_nil))))) pa_nil))))) (pss_one (ps_ret pe_bl)) pss_nil))))
      (pss_one (ps_ret pe_bl))))))))), ?_⟩
  refine Evl.q_when (b := cut1 d) ?_ (fun h1 H1 e1 => ?_) (fun h1 H1 e1 => ?_)
  · refine Evl.et_or (Evl.et_not (Evl.et_B (ev_isi (Evl.ev_var rfl) hd (kb_tup d)))) fun hs => ?_
    cases d with
    | tuple ds =>
      have e5 : isTupN 5 (.tuple ds) = decide (ds.length = 5) := decide_eq_decide.mpr ⟨fun _ => by omega, fun _ => by omega⟩
      show EvT _ _ _ (!isTupN 5 (.tuple ds) || (!isTup (ds[0]?.getD .none) || !isTup (ds[3]?.getD .none)))
      rw [e5]
      refine Evl.et_or (et_lenNe (n := 5) hd (Evl.ev_var rfl) Evl.ev_c) fun hl => ?_
      have hl5 : ds.length = 5 := by simpa using hl
      match ds, hl5 with
      | [c, m, fo, l, g], _ =>
        obtain ⟨u0, d0, i0⟩ := ev_item (K := K) (σ := start ["_law_thing", "_law_is_leader", "_law_many", "_law_cause", "_law_mark", "_law_forced", "_law_letters", "_law_to", "_law_pair"] [v, .bl b, .int n]) (i := 0) hd rfl
        obtain ⟨u3, d3, i3⟩ := ev_item (K := K) (σ := start ["_law_thing", "_law_is_leader", "_law_many", "_law_cause", "_law_mark", "_law_forced", "_law_letters", "_law_to", "_law_pair"] [v, .bl b, .int n]) (i := 3) hd rfl
        exact Evl.et_or (Evl.et_not (Evl.et_B (ev_isi (i0 (Ex.refl H) (Evl.ev_var rfl) Evl.ev_c) d0 (kb_tup c)))) fun _ => Evl.et_not (Evl.et_B (ev_isi (i3 (Ex.refl H) (Evl.ev_var rfl) Evl.ev_c) d3 (kb_tup l)))
    | _ => cases hs
  · rw [cut1_off h1] at q
    exact Evl.s_ret Evl.ev_c fun H2 e2 => q H2 (e1.trans e2)
  · obtain ⟨ds, rfl, hl⟩ : ∃ ds, d = .tuple ds ∧ ds.length = 5 := by
      refine isTupN_iff (n := 5) ?_
      cases d with
      | tuple ds =>
        have h1' : (!true || (!isTupN 5 (.tuple ds) || _)) = false := h1
        rw [Bool.or_eq_false_iff, Bool.or_eq_false_iff] at h1'
        simpa using h1'.2.1
      | _ => cases h1
    match ds, hl with
    | [c, m, fo, l, g], _ =>
      have h2 : isTup c = true ∧ isTup l = true := by
        have q1 : (!true || (!isTupN 5 (.tuple [c, m, fo, l, g]) || (!isTup c || !isTup l))) = false := h1
        rw [Bool.or_eq_false_iff, Bool.or_eq_false_iff, Bool.or_eq_false_iff] at q1
        exact ⟨by simpa using q1.2.2.1, by simpa using q1.2.2.2⟩
      obtain ⟨cs, rfl⟩ : ∃ cs, c = .tuple cs := by
        cases c with
        | tuple cs => exact ⟨cs, rfl⟩
        | _ => cases h2.1
      obtain ⟨ls, rfl⟩ : ∃ ls, l = .tuple ls := by
        cases l with
        | tuple ls => exact ⟨ls, rfl⟩
        | _ => cases h2.2
      obtain ⟨a, xs, rfl, _, ha, hx⟩ := hd.tup
      obtain ⟨x1, x2, x3, x4, x5, rfl, d1, d2, d3, d4, d5⟩ := hx.five
      have f1 : fit (.tuple cs) = true := fit_mem hf (by simp)
      have f2 : fit m = true := fit_mem hf (by simp)
      have f4 : fit (.tuple ls) = true := fit_mem hf (by simp)
      have eR : isRule (lawL b) n (.tuple [.tuple cs, m, fo, .tuple ls, g]) = ((!cut2 cs && !cut3 cs) && (!cut4 m fo && ((decide (ls.length ≤ 4) && ls.all (isLetter (lawL b))) && isIn 0 (n - 1) g))) := by
        rw [← cause_eq, ← marking_eq]
        rfl
      rw [eR] at q
      refine q_unp (Evl.ev_var rfl) (Evl.ex_t e1 (Evl.st_of ha)) rfl fun H2 e2 => ⟨x1, _, rfl, x2, _, rfl, x3, _, rfl, x4, _, rfl, x5, _, rfl, rfl, ?_⟩
      have e12 := e1.trans e2
      have g1 := Dq.same e12 d1
      have g2 := Dq.same e12 d2
      have g3 := Dq.same e12 d3
      have g4 := Dq.same e12 d4
      have g5 := Dq.same e12 d5
      have go : ∀ {H3 : Hp}, Ex H2 H3 → Ex H H3 := fun e => e12.trans e
      refine Evl.q_when (b := cut2 cs) ?_ (fun h3 H3 e3 => ?_) (fun h3 H3 e3 => ?_)
      · obtain ⟨a1, ys, rfl, _, ha1, hy⟩ := g1.tup
        have ey : cs.isEmpty = ys.isEmpty := by
          have l1 := hy.length
          cases cs <;> cases ys <;> first | rfl | cases l1
        refine Evl.et_or ?_ fun hs => ?_
        · show EvT _ _ _ cs.isEmpty
          rw [ey]
          exact Evl.et_test (Evl.ev_opU (Evl.ev_var rfl) (Evl.eu_tup Evl.ea_nil (by decide)) fun p H4 hp e4 => rv_nilT (Evl.ex_t e4 (Evl.st_of ha1)) (Evl.st_of hp))
        · cases cs with
          | nil => cases hs
          | cons c0 cr =>
            obtain ⟨u0, du, i0⟩ := ev_item (K := K) (σ := ((((((start ["_law_thing", "_law_is_leader", "_law_many", "_law_cause", "_law_mark", "_law_forced", "_law_letters", "_law_to", "_law_pair"] [.ref a, .bl b, .int n]).set 3 (some (.ref a1))).set 4 (some x2)).set 5 (some x3)).set 6 (some x4)).set 7 (some x5))) (i := 0) g1 rfl
            refine Evl.et_not (Evl.et_B ?_)
            exact ev_textD (zs := five) du (fit_mem f1 (by simp)) (i0 (Ex.refl H2) (Evl.ev_var rfl) Evl.ev_c) (Evl.eu_tup (Evl.ea_cons Evl.ev_c (Evl.ea_cons Evl.ev_c (Evl.ea_cons Evl.ev_c (Evl.ea_cons Evl.ev_c (Evl.ea_cons Evl.ev_c Evl.ea_nil))))) (by decide))
      · rw [h3] at q
        exact Evl.s_ret Evl.ev_c fun H4 e4 => q H4 (go (e3.trans e4))
      · obtain ⟨c0, cr, rfl⟩ : ∃ c0 cr, cs = c0 :: cr := by
          cases cs with
          | nil => cases h3
          | cons c0 cr => exact ⟨c0, cr, rfl⟩
        obtain ⟨u0, du, i0⟩ := ev_item (K := K) (σ := ((((((start ["_law_thing", "_law_is_leader", "_law_many", "_law_cause", "_law_mark", "_law_forced", "_law_letters", "_law_to", "_law_pair"] [.ref a, .bl b, .int n]).set 3 (some x1)).set 4 (some x2)).set 5 (some x3)).set 6 (some x4)).set 7 (some x5))) (i := 0) (Dq.same e3 g1) rfl
        refine Evl.q_when (b := cut3 (c0 :: cr)) ?_ (fun h4 H4 e4 => ?_) (fun h4 H4 e4 => ?_)
        · refine Evl.et_or ?_ fun _ => Evl.et_and (et_lenEq (n := 2) (Dq.same e3 g1) (Evl.ev_var rfl) Evl.ev_c) fun h2' => ?_
          · show EvT _ _ _ (!decide ((c0 :: cr).length = if anyS kinds c0 = true then 2 else 1))
            refine et_lenNe (Dq.same e3 g1) (Evl.ev_var rfl) ?_
            have ei : (((if anyS kinds c0 = true then 2 else 1 : Nat)) : Int) = if anyS kinds c0 = true then 2 else 1 := by split <;> rfl
            rw [ei]
            refine Evl.ev_if (b := anyS kinds c0) (Evl.et_test (Evl.ev_opU (xs := kinds.map V.str) (i0 (Ex.refl H3) (Evl.ev_var rfl) Evl.ev_c) (Evl.eu_tup (Evl.ea_cons Evl.ev_c (Evl.ea_cons Evl.ev_c Evl.ea_nil)) (by decide)) fun p H5 hp e5 => rv_inS (Dq.same e5 du) (Evl.st_of hp))) (fun hk => ?_) (fun hk => ?_)
            · rw [if_pos hk]; exact Evl.ev_c
            · rw [if_neg (by rw [hk]; decide)]; exact Evl.ev_c
          · have l2 : (c0 :: cr).length = 2 := of_decide_eq_true h2'
            match cr, l2 with
            | [c1], _ =>
              obtain ⟨u1, du1, i1⟩ := ev_item (K := K) (σ := ((((((start ["_law_thing", "_law_is_leader", "_law_many", "_law_cause", "_law_mark", "_law_forced", "_law_letters", "_law_to", "_law_pair"] [.ref a, .bl b, .int n]).set 3 (some x1)).set 4 (some x2)).set 5 (some x3)).set 6 (some x4)).set 7 (some x5))) (i := 1) (Dq.same e3 g1) rfl
              exact Evl.et_not (Evl.et_B (ev_wordD du1 (fit_mem f1 (by simp)) (i1 (Ex.refl H3) (Evl.ev_var rfl) Evl.ev_c)))
        · rw [h4, Bool.not_true, Bool.and_false, Bool.false_and] at q
          exact Evl.s_ret Evl.ev_c fun H5 e5 => q H5 (go (e3.trans (e4.trans e5)))
        · rw [h3, h4] at q
          have e34 := e3.trans e4
          refine Evl.q_when (b := cut4 m fo) ?_ (fun h5 H5 e5 => ?_) (fun h5 H5 e5 => ?_)
          · refine Evl.et_or (Evl.et_not (Evl.et_B (ev_isi (Evl.ev_var rfl) (Dq.same e34 g2) (kb_str m)))) fun hs => ?_
            have hs' : isStr m = true := by simpa using hs
            obtain ⟨z, rfl⟩ : ∃ z, m = .str z := by
              cases m with
              | str z => exact ⟨z, rfl⟩
              | _ => cases hs'
            have gm := Dq.same e34 g2
            have gm0 := gm
            unfold Dq at gm
            subst gm
            have ee : isS "" (.str z) = decide (V.str z = V.str "") := decide_eq_decide.mpr ⟨fun e => by rw [e], fun e => V.str.inj e⟩
            refine Evl.et_or (Evl.et_and ?_ fun _ => Evl.et_not (Evl.et_B (ev_wordD gm0 f2 (Evl.ev_var rfl)))) fun _ => Evl.et_or (Evl.et_not (Evl.et_B (ev_isi (Evl.ev_var rfl) (Dq.same e34 g3) (kb_bool fo)))) fun hb => Evl.et_and ?_ fun _ => ?_
            · rw [ee]
              exact Evl.et_test (Evl.ev_op (Evl.ev_var rfl) Evl.ev_c (Evl.rv_ne rfl))
            · rw [ee]
              exact Evl.et_test (Evl.ev_op (Evl.ev_var rfl) Evl.ev_c (Evl.rv_eq rfl))
            · cases fo with
              | bool fb =>
                have g3' := g3
                unfold Dq at g3'
                subst g3'
                exact Evl.et_B (Evl.ev_var rfl)
              | _ => cases hb
          · rw [h5] at q
            exact Evl.s_ret Evl.ev_c fun H6 e6 => q H6 (go (e34.trans (e5.trans e6)))
          · rw [h5] at q
            have e35 := e34.trans e5
            refine Evl.q_when (b := decide (4 < ls.length) || !isIn 0 (n - 1) g) ?_ (fun h6 H6 e6 => ?_) (fun h6 H6 e6 => ?_)
            · refine Evl.et_or (et_lenGt (n := 4) (Dq.same e35 g4) (Evl.ev_var rfl) Evl.ev_c) fun _ => Evl.et_not (Evl.et_B ?_)
              exact ev_def (Evl.ea_cons (Evl.ev_var rfl) (Evl.ea_cons (Evl.ev_var rfl) Evl.ea_nil)) fun H7 e7 => ⟨D, g, x5, n, rfl, Dq.same (e35.trans e7) g5, rfl⟩
            · have k1 : ((decide (ls.length ≤ 4) && ls.all (isLetter (lawL b))) && isIn 0 (n - 1) g) = false := by
                cases h7 : isIn 0 (n - 1) g with
                | false => rw [Bool.and_false]
                | true =>
                  rw [h7] at h6
                  have h8 : decide (4 < ls.length) = true := by simpa using h6
                  have h9 := of_decide_eq_true h8
                  rw [decide_eq_false (by omega), Bool.false_and, Bool.false_and]
              rw [k1, Bool.and_false, Bool.and_false] at q
              exact Evl.s_ret Evl.ev_c fun H7 e7 => q H7 (go (e35.trans (e6.trans e7)))
            · have k2 : ((decide (ls.length ≤ 4) && ls.all (isLetter (lawL b))) && isIn 0 (n - 1) g) = ls.all (isLetter (lawL b)) := by
                rw [Bool.or_eq_false_iff] at h6
                have h7 : isIn 0 (n - 1) g = true := by simpa using h6.2
                have h8 := of_decide_eq_false h6.1
                rw [h7, decide_eq_true (by omega), Bool.true_and, Bool.and_true]
              rw [k2] at q
              have q' : ∀ H', Ex H H' → Q (.bl (ls.all (isLetter (lawL b)))) H' := q
              have e36 := e35.trans e6
              obtain ⟨a4, zs, rfl, _, ha4, hz⟩ := (Dq.same e36 g4).tup
              refine Evl.q_forT (K := K) (a := a4) (xs := zs) (Evl.ev_var rfl) (Evl.st_of ha4) (fun i σ' H' => Ex H6 H' ∧ (ls.take i).all (isLetter (lawL b)) = true ∧ ∃ y8, σ' = [some (.ref a), some (.bl b), some (.int n), some x1, some x2, some x3, some (.ref a4), some x5, y8])
                (fun H7 e7 => ⟨e7, by rw [List.take_zero]; rfl, none, rfl⟩) (fun i σ' H' _ p => Evl.ex_t p.1 (Evl.st_of ha4)) (fun i x σ' H' hi p => ?_) (fun σ' H' p => ?_)
              · obtain ⟨p1, p2, y8, rfl⟩ := p
                obtain ⟨pd, hpd, hq⟩ := hz.getV hi
                have hq' := Dq.same p1 hq
                have fp : fit pd = true := fit_mem f4 (List.mem_of_getElem? hpd)
                have bad : isLetter (lawL b) pd = false → ls.all (isLetter (lawL b)) = false := fun hb => by
                  rw [List.all_eq_false]
                  exact ⟨pd, List.mem_of_getElem? hpd, by rw [hb]; decide⟩
                have el := letter_eq (tos := lawL b) pd
                refine Evl.q_when (b := cutL pd) ?_ (fun h7 H7 e7 => ?_) (fun h7 H7 e7 => ?_)
                · refine Evl.et_or (Evl.et_not (Evl.et_B (ev_isi (Evl.ev_var rfl) hq' (kb_tup pd)))) fun hs => ?_
                  cases pd with
                  | tuple ps =>
                    have e2' : isTupN 2 (.tuple ps) = decide (ps.length = 2) := decide_eq_decide.mpr ⟨fun _ => by omega, fun _ => by omega⟩
                    show EvT _ _ _ (!isTupN 2 (.tuple ps) || !isWord (ps[0]?.getD .none))
                    rw [e2']
                    refine Evl.et_or (et_lenNe (n := 2) hq' (Evl.ev_var rfl) Evl.ev_c) fun hl2 => ?_
                    have hl2' : ps.length = 2 := by simpa using hl2
                    match ps, hl2' with
                    | [k0, k1], _ =>
                      obtain ⟨w0, dw0, j0⟩ := ev_item (K := K) (σ := [some (.ref a), some (.bl b), some (.int n), some x1, some x2, some x3, some (.ref a4), some x5, some x]) (i := 0) hq' rfl
                      exact Evl.et_not (Evl.et_B (ev_wordD dw0 (fit_mem fp (by simp)) (j0 (Ex.refl _) (Evl.ev_var rfl) Evl.ev_c)))
                  | _ => cases hs
                · rw [h7] at el
                  rw [bad el] at q'
                  exact Evl.s_ret Evl.ev_c fun H8 e8 => q' H8 (go (e36.trans (p1.trans (e7.trans e8))))
                · rw [h7] at el
                  obtain ⟨k0, k1, rfl⟩ : ∃ k0 k1, pd = .tuple [k0, k1] := by
                    cases pd with
                    | tuple ps =>
                      have h8 : (!true || (!isTupN 2 (.tuple ps) || _)) = false := h7
                      rw [Bool.or_eq_false_iff, Bool.or_eq_false_iff] at h8
                      obtain ⟨ds2, e9, hl9⟩ := isTupN_iff (n := 2) (d := .tuple ps) (by simpa using h8.2.1)
                      cases e9
                      match ps, hl9 with
                      | [k0, k1], _ => exact ⟨k0, k1, rfl⟩
                    | _ => cases h7
                  obtain ⟨w1, dw1, j1⟩ := ev_item (K := K) (σ := [some (.ref a), some (.bl b), some (.int n), some x1, some x2, some x3, some (.ref a4), some x5, some x]) (i := 1) (Dq.same e7 hq') rfl
                  refine Evl.s_when (b := !anyS (lawL b) k1) (Evl.et_not (Evl.et_B ?_)) (fun h8 H8 e8 => ?_) (fun h8 H8 e8 => ?_)
                  · refine ev_textD dw1 (fit_mem fp (by simp)) (j1 (Ex.refl _) (Evl.ev_var rfl) Evl.ev_c) (eu_if (b := b) (Evl.et_B (Evl.ev_var rfl)) (fun hb => ?_) (fun hb => ?_))
                    · rw [hb]
                      exact Evl.eu_tup (Evl.ea_cons Evl.ev_c (Evl.ea_cons Evl.ev_c Evl.ea_nil)) (by decide)
                    · rw [hb]
                      exact Evl.eu_tup (Evl.ea_cons Evl.ev_c (Evl.ea_cons Evl.ev_c (Evl.ea_cons Evl.ev_c Evl.ea_nil))) (by decide)
                  · have h9 : anyS (lawL b) k1 = false := by simpa using h8
                    have el2 : isLetter (lawL b) (.tuple [k0, k1]) = false := by
                      rw [el]
                      show (true && anyS (lawL b) k1) = false
                      rw [h9]
                      rfl
                    rw [bad el2] at q'
                    exact Evl.s_ret Evl.ev_c fun H9 e9 => q' H9 (go (e36.trans (p1.trans (e7.trans (e8.trans e9)))))
                  · have h9 : anyS (lawL b) k1 = true := by simpa using h8
                    refine ⟨p1.trans (e7.trans e8), ?_, some x, rfl⟩
                    rw [List.take_add_one, hpd, List.all_append, p2]
                    show (true && (isLetter (lawL b) (.tuple [k0, k1]) && true)) = true
                    rw [el]
                    show (true && ((true && anyS (lawL b) k1) && true)) = true
                    rw [h9]
                    rfl
              · obtain ⟨p1, p2, y8, rfl⟩ := p
                rw [hz.length, List.take_length] at p2
                rw [p2] at q'
                exact Evl.s_ret Evl.ev_c fun H8 e8 => q' H8 (go (e36.trans (p1.trans e8)))
end
end Al
namespace Al
open PySem PySem.Spec PyProof.Rows L2
open Evl (Ex Ev EvT EvA EvL EvU SpV RV RC RCL)
def marksIn (rs : List PyData) : List Str := (rs.map markOf).filter fun m => !decide (m = "")
theorem marksOf_in (ss : List PyData) : marksOf ss = marksIn (rulesOf ss) := rfl
theorem marksIn_app (a b : List PyData) : marksIn (a ++ b) = marksIn a ++ marksIn b := by
  unfold marksIn
  rw [List.map_append, List.filter_append]
theorem marksIn_len (rs : List PyData) : (marksIn rs).length ≤ rs.length := by
  unfold marksIn
  refine Nat.le_trans (List.length_filter_le _ _) ?_
  rw [List.length_map]
  exact Nat.le_refl _
section
variable {K : PySem.W.Frag} {σ : L2.St} {H : Hp} {ta tb tc te tl : TE} {t : TT} {x y z v : V}
/-- [r[1] for r in rules if r[1] != ""], rules a tuple of rules -/
theorem el_marks {D : Ban} {rs : List PyData} {xs : List V} {a : Addr} {j : Nat} {vs : List Nat} (h : Ev tl σ H (.ref a)) (ha : H a = some (.tup xs)) (hx : DqL D H rs xs) (wf : ∀ r ∈ rs, WfR r) (few : rs.length ≤ 40000) (hw : ∀ x, wipe ((wipe σ vs).set j (some x)) vs = wipe σ vs)
    (hj : ∀ x, ((wipe σ vs).set j (some x))[j]? = some (some x)) :
    EvL (tLc (iTup K tl) (gName j) (tTest (tOp rNe (tOp (rIxT K) (tVar j) (tC (.int 1))) (tC (.str "")))) (tOp (rIxT K) (tVar j) (tC (.int 1))) vs) σ H ((marksIn rs).map V.str) := by
  have rule : ∀ (i : Nat) (x : V) H1, Ex H H1 → xs[i]? = some x → Ev (tOp (rIxT K) (tVar j) (tC (.int 1))) ((wipe σ vs).set j (some (xs[i]?.getD .non))) H1 (.str (markOf (rs[i]?.getD .none))) := fun i x H1 e hi => by
    obtain ⟨d, hd, hq⟩ := hx.getV hi
    obtain ⟨c, f, l, g, er⟩ := (wf d (List.mem_of_getElem? hd)).mark
    rw [hd, hi]
    rw [er] at hq
    obtain ⟨b, ys, rfl, _, hb, hy⟩ := hq.tup
    obtain ⟨y1, y2, y3, y4, y5, rfl, _, d2, _⟩ := hy.five
    unfold Dq at d2
    subst d2
    exact ev_ixT (i := 1) (Evl.ev_var (hj _)) Evl.ev_c (Evl.st_of (e _ _ hb)) rfl
  have el := el_lcT (K := K) (σ := σ) (H := H) (tl := tl) (xs := xs) (a := a) (g := gName j) (vs := vs) (t := tTest (tOp rNe (tOp (rIxT K) (tVar j) (tC (.int 1))) (tC (.str "")))) (te := tOp (rIxT K) (tVar j) (tC (.int 1)))
    (fun i => (wipe σ vs).set j (some (xs[i]?.getD .non))) (fun i => !decide (markOf (rs[i]?.getD .none) = "")) (fun i => .str (markOf (rs[i]?.getD .none))) h (Evl.st_of ha) (by rw [hx.length]; exact few)
    (fun i x H1 e hi k q => by rw [hi] at q; exact q H1 (Ex.refl H1)) (fun i => hw _) (fun i x H1 e hi => by
      have e5 : (!decide (markOf (rs[i]?.getD .none) = "")) = (!decide (V.str (markOf (rs[i]?.getD .none)) = V.str "")) := by
        congr 1
        exact decide_eq_decide.mpr ⟨fun e => by rw [e], fun e => V.str.inj e⟩
      show EvT _ _ _ (!decide (markOf (rs[i]?.getD .none) = ""))
      rw [e5]
      exact Evl.et_test (Evl.ev_op (rule i x H1 e hi) Evl.ev_c (Evl.rv_ne rfl))) (fun i x H1 e hi _ => rule i x H1 e hi)
  have g := given_list rs .none (fun r => !decide (markOf r = "")) (fun r => V.str (markOf r))
  rw [hx.length, g] at el
  have e : (rs.filter fun r => !decide (markOf r = "")).map (fun r => V.str (markOf r)) = (marksIn rs).map V.str := by
    unfold marksIn
    rw [List.filter_map, List.map_map]
    rfl
  rw [e] at el
  exact el
theorem given_empty (l : List PyData) (p : PyData → Bool) (v : Nat → V) : (Evl.given l.length (fun i => !p (l[i]?.getD .none)) v).isEmpty = l.all p := by
  rw [← all_at l p]
  unfold Evl.given
  rw [List.all_map, List.isEmpty_map]
  cases h : ((List.range l.length).all (id ∘ fun i => p (l[i]?.getD .none))) with
  | true =>
    rw [List.isEmpty_iff, List.filter_eq_nil_iff]
    intro i hi
    have q' : p (l[i]?.getD .none) = true := List.all_eq_true.mp h i hi
    rw [q']
    decide
  | false =>
    obtain ⟨i, hi, q⟩ := List.all_eq_false.mp h
    rw [Bool.eq_false_iff]
    intro he
    rw [List.isEmpty_iff, List.filter_eq_nil_iff] at he
    have q2 := he i hi
    have q' : ¬ p (l[i]?.getD .none) = true := q
    rw [Bool.not_eq_true] at q'
    rw [q'] at q2
    simp at q2
end
def spLMarks : Sp := fun vs H Q _ => ∃ (D : Ban) (ss : List PyData) (a : Addr) (x0 : V) (rest : List V), vs = [.ref a] ∧ H a = some (.tup (x0 :: rest)) ∧ Dq D H (.tuple ss) x0 ∧ (∀ s ∈ ss, WfS s) ∧ (rulesOf ss).length ≤ 4000 ∧
  ∀ r H', Ex H H' → H r = none → IsSrt (marksOf ss) (srt (marksOf ss)) → (srt (marksOf ss)).length ≤ 4000 → H' r = some (.lst ((srt (marksOf ss)).map V.str)) → Q (.ref r) H'
section
variable {P : Program} {w : World} {K : PySem.W.Frag} {mg : Str → Option Value} {base : Heap}
theorem sc_l_marks : FnScope ["_law_role", "_law_found", "_law_end", "_law_rules", "_law_rule_here"] ["_law_role"] (defScope (top 49)) := ⟨rfl, rfl, rfl, by decide +kernel, rfl, by decide +kernel, by decide +kernel⟩
theorem rules_pre {ss : List PyData} (i : Nat) : (rulesOf (ss.take i)).length ≤ (rulesOf ss).length := by
  have e1 : rulesOf ss = rulesOf (ss.take i) ++ rulesOf (ss.drop i) := by
    show List.flatMap rsOf ss = List.flatMap rsOf _ ++ List.flatMap rsOf _
    rw [← List.flatMap_append, List.take_append_drop]
  rw [e1, List.length_append]
  omega
theorem ok_l_marks (F : Def K mg "_law_marks" (top 49) ["_law_role"]) (B : Bl mg) : Cal P w K mg base 1 "_law_marks" spLMarks := by
  refine Cal.of F sc_l_marks (fun vs H Q E ⟨D, ss, a, x0, rest, e, _⟩ => by rw [e]; rfl) (fun f cdv A outer s H vs Q E hr h => ?_)
  obtain ⟨D, ss, a, x0, rest, rfl, ha, h0, wf, few, q⟩ := h
  refine ⟨_, (pss_cons (ps_set (i := 1) sc_l_marks.nd rfl (.inl rfl) (pe_lst pa_nil))
      (pss_cons (ps_for PassesOwn.never rfl (pi_tup (pe_ix ix_tup (pv 0) pe_int (fun _ _ => rfl))) (pg_tup rfl (pgs_cons (pg_name (i := 2) sc_l_marks.nd rfl (.inl rfl)) (pgs_cons (pg_name (i := 3) sc_l_marks.nd rfl (.inl rfl)) pgs_nil)))
        (pss_one (ps_expr (pe_bm PySem.F.plainAttrs_list PySem.F.slot_list_extend PySem.F.type_list_extend mt_extend (pv 1) (pa_cons (pe_lc (own := [("_law_rule_here", 4)]) (g := gName 4) (tt := tTest (tOp rNe (tOp (rIxT K) (tVar 4) (tC (.int 1))) (tC (.str "")))) (te := tOp (rIxT K) (tVar 4) (tC (.int 1))) rfl sc_l_marks.nd (pi_tup (pv 3)) (blkOk_by (N := ["_law_role", "_law_found", "_law_end", "_law_rules", "_law_rule_here"]) (sc := defScope (top 49)) (by decide +kernel))
          (fun _ _ _ _ _ => pg_name (i := 4) sc_l_marks.nd rfl (Or.inl rfl)) (fun _ _ _ _ _ => pts_one (pt_cmpR op_ne (pe_ix ix_tup (pv 4) pe_int (fun _ _ => rfl)) pe_str (nomark _))) (fun _ _ _ _ _ => pe_ix ix_tup (pv 4) pe_int (fun _ _ => rfl))) pa_nil)))))
      (pss_one (ps_ret (pe_callB (cr_sortTx rfl) (by rfl) B.sorted b_sorted (pa_cons (pe_callTy (cr_setTx rfl) (by rfl) B.set b_set (pa_cons (pv 1) pa_nil)) pa_nil)))))), ?_⟩
  refine ⟨by decide, fun p hp => ?_⟩
  have e0 : Ex H (upd H p (.lst [])) := Ex.new hp
  obtain ⟨c, xs, rfl, _, hc, hx⟩ := h0.tup
  refine Evl.q_forT (K := K) (a := c) (xs := xs) (ev_ixT (i := 0) (Evl.ev_var rfl) Evl.ev_c (Evl.st_of (e0 _ _ ha)) rfl) (Evl.st_of (e0 _ _ hc))
    (fun i σ' H' => Ex H H' ∧ H' p = some (.lst ((marksIn (rulesOf (ss.take i))).map V.str)) ∧ ∃ y2 y3, σ' = [some (.ref a), some (.ref p), y2, y3, none])
    (fun H1 e1 => ⟨e0.trans e1, e1 _ _ upd_same, none, none, rfl⟩) (fun i σ' H' _ pp => Evl.st_of (pp.1 _ _ hc)) (fun i x σ' H' hi pp => ?_) (fun σ' H' pp => ?_)
  · obtain ⟨p1, p2, y2, y3, rfl⟩ := pp
    obtain ⟨sd, hsd, hq⟩ := hx.getV hi
    obtain ⟨e, rs, rfl, wr⟩ := wf _ (List.mem_of_getElem? hsd)
    obtain ⟨b, ys, rfl, _, hb, hy⟩ := (Dq.same p1 hq).tup
    obtain ⟨z1, z2, rfl, d1, d2⟩ := hy.two
    obtain ⟨c2, us, rfl, _, hc2, hu⟩ := d2.tup
    refine ⟨b, _, rfl, Evl.st_of hb, rfl, z1, _, rfl, .ref c2, [], rfl, rfl, ?_⟩
    have er := rulesOf_snoc hsd
    have lr := rules_pre (ss := ss) (i + 1)
    rw [er, List.length_append] at lr
    have lrs : (rsOf (.tuple [e, .tuple rs])).length = rs.length := rfl
    refine ⟨_, rfl, .inl ⟨rfl, _, .inl (.inl p2)⟩, ?_⟩
    refine el_marks (K := K) (D := D) (σ := [some (.ref a), some (.ref p), some z1, some (.ref c2), none]) (j := 4) (vs := [4]) (Evl.ev_var rfl) hc2 hu wr (by omega) (fun x => rfl) (fun x => rfl) H' (Ex.refl H') _ fun r H2 hr2 e2 h2 => ?_
    refine ⟨p, r, _, _, rfl, rfl, e2 _ _ p2, h2, ?_, ?_⟩
    · rw [List.length_map, List.length_map]
      have m1 := marksIn_len (rulesOf (ss.take i))
      have m2 := marksIn_len rs
      exact Nat.le_trans (show _ ≤ 4000 by omega) (by decide)
    · refine ⟨Ex.mut (p1.trans e2) hp, ?_, some z1, some (.ref c2), rfl⟩
      rw [upd_same, er, marksIn_app, List.map_append]
      rfl
  · obtain ⟨p1, p2, y2, y3, rfl⟩ := pp
    rw [hx.length, List.take_length] at p2
    have ml : (marksOf ss).length ≤ 4000 := Nat.le_trans (marksIn_len _) few
    refine ⟨_, rfl, p, marksOf ss, rfl, Evl.sq_of p2, Nat.lt_of_le_of_lt (Nat.succ_le_succ ml) (by decide), fun sa hsa => ?_⟩
    refine ⟨sa, (marksOf ss).length, marksOf ss, rfl, upd_same, Nat.lt_of_le_of_lt ml (by decide), fun ys r hs hl hr' => ?_⟩
    have es := srt_of hs
    have e1 : Ex H (upd H' sa (SetTx w sa (marksOf ss).length (marksOf ss))) := p1.trans (Ex.new hsa)
    refine q r _ (e1.trans (Ex.new hr')) (Evl.fresh_back e1 hr') (by rw [es]; exact hs) (by rw [es]; omega) ?_
    rw [es]
    exact upd_same
end
end Al
namespace Al
open PySem PySem.Spec PyProof.Rows L2
open Evl (Ex Ev EvT EvA EvL EvU SpV RV RC RCL)
def kA : PyData → Bool
  | .tuple ds => !isTup (ds[0]?.getD .none) || !isTup (ds[1]?.getD .none)
  | _ => false
def kS : PyData → Bool
  | .tuple ds => !anyS ends (ds[0]?.getD .none)
  | _ => false
def kU (n : Int) : PyData → Bool
  | .tuple ds => !isStr (ds[0]?.getD .none) || !isIn 0 (n - 1) (ds[1]?.getD .none)
  | _ => false
def cutA (d : PyData) : Bool := !isTup d || (!isTupN 2 d || kA d)
def cutS1 (s : PyData) : Bool := !isTup s || (!isTupN 2 s || kS s)
theorem state_eq {tos : List Str} {n : Int} (e r : PyData) : isState tos n (.tuple [e, r]) = (anyS ends e && (isTup r && (match (motive := PyData → Bool) r with | .tuple rs => decide (rs.length ≤ 6) && rs.all (isRule tos n) | _ => false))) := by
  cases r with
  | tuple rs =>
    show (anyS ends e && decide (rs.length ≤ 6) && rs.all (isRule tos n)) = (anyS ends e && (true && (decide (rs.length ≤ 6) && rs.all (isRule tos n))))
    cases anyS ends e <;> cases decide (rs.length ≤ 6) <;> rfl
  | _ =>
    show false = (anyS ends e && (false && false))
    rw [Bool.and_false, Bool.and_false]
def upOk (n : Int) : PyData → Bool
  | .tuple [.str _, g] => isIn 0 (n - 1) g
  | _ => false
def keyOf : PyData → Str
  | .tuple [.str k, _] => k
  | _ => ""
def cutU (n : Int) (u : PyData) : Bool := !isTup u || (!isTupN 2 u || kU n u)
theorem cutU_eq (n : Int) (u : PyData) : cutU n u = !upOk n u := by
  cases u with
  | tuple ds =>
    match ds with
    | [] => rfl
    | [a] => cases a <;> rfl
    | [a, b] =>
      show (false || (!true || (!isStr a || !isIn 0 (n - 1) b))) = !upOk n (.tuple [a, b])
      cases a with
      | str z => cases h : isIn 0 (n - 1) b <;> simp [isStr, upOk, h]
      | _ => rfl
    | a :: b :: c :: r =>
      have e : isTupN 2 (.tuple (a :: b :: c :: r)) = false := by
        show decide (((a :: b :: c :: r).length : Int) = 2) = false
        exact decide_eq_false (by simp only [List.length_cons]; omega)
      show (false || (!isTupN 2 (.tuple (a :: b :: c :: r)) || _)) = _
      rw [e]
      cases a <;> rfl
  | _ => rfl
theorem up_bad {m : Str} {n : Int} {u : PyData} (h : upOk n u = false) : isUp m n u = false := by
  cases u with
  | tuple ds =>
    match ds with
    | [] => rfl
    | [a] => rfl
    | [a, b] =>
      cases a with
      | str z =>
        have h' : isIn 0 (n - 1) b = false := h
        show (isS m (.str z) && isIn 0 (n - 1) b) = false
        rw [h', Bool.and_false]
      | _ => rfl
    | a :: b :: c :: r => rfl
  | _ => rfl
theorem up_good {m : Str} {n : Int} {u : PyData} (h : upOk n u = true) : isUp m n u = decide (keyOf u = m) := by
  cases u with
  | tuple ds =>
    match ds with
    | [] => cases h
    | [a] => cases a <;> cases h
    | [a, b] =>
      cases a with
      | str z =>
        have h' : isIn 0 (n - 1) b = true := h
        show (isS m (.str z) && isIn 0 (n - 1) b) = _
        rw [h', Bool.and_true]
        rfl
      | _ => cases h
    | a :: b :: c :: r => cases a <;> cases h
  | _ => cases h
theorem ups_bad {ms : List Str} {n : Int} {us : List PyData} {u : PyData} (hu : u ∈ us) (h : upOk n u = false) : isUps ms n (.tuple us) = false := by
  obtain ⟨i, hi, e⟩ := List.getElem_of_mem hu
  show (decide (us.length = ms.length) && (List.range us.length).all fun i => isUp (ms[i]?.getD "") n (us[i]?.getD .none)) = false
  have q : ((List.range us.length).all fun i => isUp (ms[i]?.getD "") n (us[i]?.getD .none)) = false := by
    rw [List.all_eq_false]
    refine ⟨i, List.mem_range.mpr hi, ?_⟩
    rw [List.getElem?_eq_getElem hi, e]
    show ¬ isUp _ n u = true
    rw [up_bad h]
    decide
  rw [q, Bool.and_false]
theorem ups_good {ms : List Str} {n : Int} {us : List PyData} (h : ∀ u ∈ us, upOk n u = true) : isUps ms n (.tuple us) = decide (us.map keyOf = ms) := by
  show (decide (us.length = ms.length) && (List.range us.length).all fun i => isUp (ms[i]?.getD "") n (us[i]?.getD .none)) = _
  by_cases hl : us.length = ms.length
  · rw [decide_eq_true hl, Bool.true_and]
    by_cases he : us.map keyOf = ms
    · rw [decide_eq_true he, List.all_eq_true]
      intro i hi
      have hi' := List.mem_range.mp hi
      rw [List.getElem?_eq_getElem hi']
      show isUp _ n us[i] = true
      rw [up_good (h _ (List.getElem_mem hi'))]
      refine decide_eq_true ?_
      rw [← he, List.getElem?_map, List.getElem?_eq_getElem hi']
      rfl
    · rw [decide_eq_false he, List.all_eq_false]
      refine Classical.byContradiction fun hc => he ?_
      apply List.ext_getElem?
      intro i
      by_cases hi : i < us.length
      · refine Classical.byContradiction fun hn => hc ⟨i, List.mem_range.mpr hi, ?_⟩
        rw [List.getElem?_eq_getElem hi]
        show ¬ isUp _ n us[i] = true
        rw [up_good (h _ (List.getElem_mem hi))]
        intro hd
        have hd' := of_decide_eq_true hd
        refine hn ?_
        rw [List.getElem?_map, List.getElem?_eq_getElem hi]
        show some (keyOf us[i]) = _
        rw [hd', List.getElem?_eq_getElem (show i < ms.length by omega)]
        rfl
      · rw [List.getElem?_map, List.getElem?_eq_none_iff.mpr (by omega), List.getElem?_eq_none_iff.mpr (by omega)]
        rfl
  · rw [decide_eq_false hl, Bool.false_and]
    exact (decide_eq_false fun e => hl (by rw [← e, List.length_map])).symm
theorem upOk_shape {n : Int} {u : PyData} (h : upOk n u = true) : ∃ g, u = .tuple [.str (keyOf u), g] := by
  cases u with
  | tuple ds =>
    match ds with
    | [] => cases h
    | [a] => cases a <;> cases h
    | [a, b] =>
      cases a with
      | str z => exact ⟨b, rfl⟩
      | _ => cases h
    | a :: b :: c :: r => cases a <;> cases h
  | _ => cases h
theorem two_of {d : PyData} {k : PyData → Bool} (h : (!isTup d || (!isTupN 2 d || k d)) = false) : ∃ a b, d = .tuple [a, b] := by
  rw [Bool.or_eq_false_iff, Bool.or_eq_false_iff] at h
  obtain ⟨ds, rfl, hl⟩ := isTupN_iff (n := 2) (d := d) (by simpa using h.2.1)
  match ds, hl with
  | [a, b], _ => exact ⟨a, b, rfl⟩
def RLo : List V → Hp → V → Prop := fun vs H z => ∃ (D : Ban) (d : PyData) (v : V) (b : Bool), vs = [v, .bl b] ∧ Dq D H d v ∧ fit d = true ∧ z = .bl (isRole (lawL b) d)
section
variable {K : PySem.W.Frag} {σ : L2.St} {H : Hp} {ta tb tc te tl : TE} {t : TT} {x y z v : V}
/-- not isinstance(x, tuple) or len(x) != 2 or .. -/
theorem et_two {D : Ban} {d : PyData} {k : PyData → Bool} {tr : TT} (hd : Dq D H d x) (ha : Ev ta σ H x) (hr : ∀ a b, d = .tuple [a, b] → EvT tr σ H (k d)) :
    EvT (tOr (tNot (tB (tCB (rIsi K) (tCons ta (tCons (tC (.ty "tuple")) tNil))))) (tOr (tTest (tOp rNe (tCB (rLn K) (tCons ta tNil)) (tC (.int 2)))) tr)) σ H (!isTup d || (!isTupN 2 d || k d)) := by
  refine Evl.et_or (Evl.et_not (Evl.et_B (ev_isi ha hd (kb_tup d)))) fun hs => ?_
  cases d with
  | tuple ds =>
    have e : isTupN 2 (.tuple ds) = decide (ds.length = 2) := decide_eq_decide.mpr ⟨fun _ => by omega, fun _ => by omega⟩
    rw [e]
    refine Evl.et_or (et_lenNe (n := 2) hd ha Evl.ev_c) fun hl => ?_
    have hl' : ds.length = 2 := by simpa using hl
    match ds, hl' with
    | [a, b], _ => exact hr a b rfl
  | _ => cases hs
end
section
variable {P : Program} {w : World} {K : PySem.W.Frag} {mg : Str → Option Value} {base : Heap}
theorem sc_l_role : FnScope ["_law_thing", "_law_is_leader", "_law_states", "_law_ups", "_law_state", "_law_rule_here", "_law_pair"] ["_law_thing", "_law_is_leader"] (defScope (top 47)) := ⟨rfl, rfl, rfl, by decide +kernel, rfl, by decide +kernel, by decide +kernel⟩
set_option maxHeartbeats 4000000 in
theorem ok_l_role (F : Def K mg "_law_is_role" (top 47) ["_law_thing", "_law_is_leader"]) (B : Bl mg) (c__law_is_text : Cal P w K mg base 1 "_law_is_text" (spV (RtoS K anyS))) (c__law_is_rule : Cal P w K mg base 3 "_law_is_rule" (spV RLr))
    (c__law_is_place : Cal P w K mg base 2 "_law_is_place" (spV RIn)) (c__law_marks : Cal P w K mg base 1 "_law_marks" spLMarks) : Cal P w K mg base 4 "_law_is_role" (spV RLo) := by
  refine Cal.of F sc_l_role (len_spV fun vs H z ⟨D, d, v, b, h, _⟩ => by rw [h]; rfl) (fun f cdv A outer s H vs Q E hr h => ?_)
  obtain ⟨z, ⟨D, d, v, b, rfl, hd, hf, rfl⟩, q⟩ := h
  refine ⟨_, (pss_cons (ps_if (PW.pt (pw_or (pt_not (pt_val (pe_callB call_isi (by rfl) B.isinstance b_isinstance (pa_cons (pv 0) (pa_cons (pty B.tuple b_tuple) pa_nil))))) (pw_or (pt_cmpR op_ne (pe_callB call_len_seq (by rfl) B.len b_len (pa_cons (pv 0) pa_nil)) pe_int (nomark _)) (pw_or (pt_not (pt_val (pe_callB call_isi (by rfl) B.isinstance b_isinstance (pa_cons (pe_ix ix_tup (pv 0) pe_int (fun _ _ => rfl)) (pa_cons (pty B.tuple b_tuple) pa_nil))))) (pw_or1 (pt_not (pt_val (pe_callB call_isi (by rfl) B.isinstance b_isinstance (pa_cons (pe_ix ix_tup (pv 0) pe_int (fun _ _ => rfl)) (pa_cons (pty B.tuple b_tuple) pa_nil)))))))))) (pss_one (ps_ret pe_bl)) pss_nil)
      (pss_cons (ps_asg (pv 0) (pg_tup rfl (pgs_cons (pg_name (i := 2) sc_l_role.nd rfl (.inr rfl)) (pgs_cons (pg_name (i := 3) sc_l_role.nd rfl (.inl rfl)) pgs_nil))))
      (pss_cons (ps_if (pt_not (pt_chain op_le op_le pe_int (pe_callB call_len_seq (by rfl) B.len b_len (pa_cons (pv 2) pa_nil)) pe_int)) (pss_one (ps_ret pe_bl)) pss_nil)
      (pss_cons (ps_for PassesOwn.never rfl (pi_tup (pv 2)) (pg_name (i := 4) sc_l_role.nd rfl (.inl rfl)) (pss_cons (ps_if (PW.pt (pw_or (pt_not (pt_val (pe_callB call_isi (by rfl) B.isinstance b_isinstance (pa_cons (pv 4) (pa_cons (pty B.tuple b_tuple) pa_nil))))) (pw_or (pt_cmpR op_ne (pe_callB call_len_seq (by rfl) B.len b_len (pa_cons (pv 4) pa_nil)) pe_int (nomark _)) (pw_or1 (pt_not (pt_val (pcall c__law_is_text hr (pa_cons (pe_ix ix_tup (pv 4) pe_int (fun _ _ => rfl)) (pa_cons (pe_tup (pa_cons pe_str (pa_cons pe_str (pa_cons pe_str pa_nil)))) pa_nil))))))))) (pss_one (ps_ret pe_bl)) pss_nil)
        (pss_cons (ps_if (PW.pt (pw_or (pt_not (pt_val (pe_callB call_isi (by rfl) B.isinstance b_isinstance (pa_cons (pe_ix ix_tup (pv 4) pe_int (fun _ _ => rfl)) (pa_cons (pty B.tuple b_tuple) pa_nil))))) (pw_or1 (pt_cmpR op_gt (pe_callB call_len_seq (by rfl) B.len b_len (pa_cons (pe_ix ix_tup (pv 4) pe_int (fun _ _ => rfl)) pa_nil)) pe_int (nomark _))))) (pss_one (ps_ret pe_bl)) pss_nil)
        (pss_one (ps_if (pt_cmpR (op_neNilL (hu1 hr)) (pe_lc (own := [("_law_rule_here", 5)]) (g := gName 5) (te := tVar 5) (tt := tNot (tB (tCall (spV RLr) [] E0 (tCons (tVar 5) (tCons (tVar 1) (tCons (tCB (rLn K) (tCons (tVar 2) tNil)) tNil)))))) rfl sc_l_role.nd (pi_tup (pe_ix ix_tup (pv 4) pe_int (fun _ _ => rfl))) (blkOk_by (N := ["_law_thing", "_law_is_leader", "_law_states", "_law_ups", "_law_state", "_law_rule_here", "_law_pair"]) (sc := defScope (top 47)) (by decide +kernel))
          (fun _ _ _ _ _ => pg_name (i := 5) sc_l_role.nd rfl (Or.inl rfl)) (fun _ _ _ _ _ => by exact pts_one (pt_not (pt_val (pcall c__law_is_rule hr (pa_cons (pv 5) (pa_cons (pv 1) (pa_cons (pe_callB call_len_seq (by rfl) B.len b_len (pa_cons (pv 2) pa_nil)) pa_nil))))))) (fun _ _ _ _ _ => pv 5)) (pe_lst pa_nil) (nomark _)) (pss_one (ps_ret pe_bl)) pss_nil)))))
      (pss_cons (ps_for PassesOwn.never rfl (pi_tup (pv 3)) (pg_name (i := 6) sc_l_role.nd rfl (.inl rfl)) (pss_one (ps_if (PW.pt (pw_or (pt_not (pt_val (pe_callB call_isi (by rfl) B.isinstance b_isinstance (pa_cons (pv 6) (pa_cons (pty B.tuple b_tuple) pa_nil))))) (pw_or (pt_cmpR op_ne (pe_callB call_len_seq (by rfl) B.len b_len (pa_cons (pv 6) pa_nil)) pe_int (nomark _)) (pw_or (pt_not (pt_val (pe_callB call_isi (by rfl) B.isinstance b_isinstance (pa_cons (pe_ix ix_tup (pv 6) pe_int (fun _ _ => rfl)) (pa_cons (pty B.str b_str) pa_nil))))) (pw_or1 (pt_not (pt_val (pcall c__law_is_place hr (pa_cons (pe_ix ix_tup (pv 6) pe_int (fun _ _ => rfl)) (pa_cons (pe_callB call_len_seq (by rfl) B.len b_len (pa_cons (pv 2) pa_nil)) pa_nil)))))))))) (pss_one (ps_ret pe_bl)) pss_nil)))
      (pss_one (ps_ret (pe_cmpR (op_eqStrs (hu1 hr)) (pe_lc (own := [("_law_pair", 6)]) (g := gName 6) (tt := tYes) (te := tOp (rIxT K) (tVar 6) (tC (.int 0))) rfl sc_l_role.nd (pi_tup (pv 3)) (blkOk_by (N := ["_law_thing", "_law_is_leader", "_law_states", "_law_ups", "_law_state", "_law_rule_here", "_law_pair"]) (sc := defScope (top 47)) (by decide +kernel))
          (fun _ _ _ _ _ => pg_name (i := 6) sc_l_role.nd rfl (Or.inl rfl)) (fun _ _ _ _ _ => pts_nil) (fun _ _ _ _ _ => pe_ix ix_tup (pv 6) pe_int (fun _ _ => rfl)))
          (pe_op op_cat (pe_lst (pa_cons pe_str pa_nil)) (pcall c__law_marks hr (pa_cons (pv 0) pa_nil))) (nomark _))))))))), ?_⟩
  refine Evl.q_when (b := cutA d) (et_two (K := K) (k := kA) hd (Evl.ev_var rfl) fun a b' e => ?_) (fun h1 H1 e1 => ?_) (fun h1 H1 e1 => ?_)
  · subst e
    obtain ⟨u0, d0, i0⟩ := ev_item (K := K) (σ := start ["_law_thing", "_law_is_leader", "_law_states", "_law_ups", "_law_state", "_law_rule_here", "_law_pair"] [v, .bl b]) (i := 0) hd rfl
    obtain ⟨u1, d1, i1⟩ := ev_item (K := K) (σ := start ["_law_thing", "_law_is_leader", "_law_states", "_law_ups", "_law_state", "_law_rule_here", "_law_pair"] [v, .bl b]) (i := 1) hd rfl
    exact Evl.et_or (Evl.et_not (Evl.et_B (ev_isi (i0 (Ex.refl H) (Evl.ev_var rfl) Evl.ev_c) d0 (kb_tup a)))) fun _ => Evl.et_not (Evl.et_B (ev_isi (i1 (Ex.refl H) (Evl.ev_var rfl) Evl.ev_c) d1 (kb_tup b')))
  · have key : isRole (lawL b) d = false := by
      cases h2 : isTupN 2 d with
      | false => exact isRole_off h2
      | true =>
        obtain ⟨ds, rfl, hl⟩ := isTupN_iff (n := 2) h2
        match ds, hl with
        | [a, c], _ =>
          have h3 : (!true || (!isTupN 2 (.tuple [a, c]) || (!isTup a || !isTup c))) = true := h1
          rw [h2] at h3
          have h4 : (!isTup a || !isTup c) = true := h3
          cases a with
          | tuple ss =>
            have h5 : isTup c = false := by simpa [isTup] using h4
            cases c with
            | tuple us => cases h5
            | _ =>
              show (_ && false) = false
              rw [Bool.and_false]
          | _ => rfl
    rw [key] at q
    exact Evl.s_ret Evl.ev_c fun H2 e2 => q H2 (e1.trans e2)
  · obtain ⟨sd, ud, rfl⟩ := two_of h1
    have h2 : isTup sd = true ∧ isTup ud = true := by
      have q1 : (!true || (!isTupN 2 (.tuple [sd, ud]) || (!isTup sd || !isTup ud))) = false := h1
      rw [Bool.or_eq_false_iff, Bool.or_eq_false_iff, Bool.or_eq_false_iff] at q1
      exact ⟨by simpa using q1.2.2.1, by simpa using q1.2.2.2⟩
    obtain ⟨ss, rfl⟩ : ∃ ss, sd = .tuple ss := by
      cases sd with
      | tuple ss => exact ⟨ss, rfl⟩
      | _ => cases h2.1
    obtain ⟨us, rfl⟩ : ∃ us, ud = .tuple us := by
      cases ud with
      | tuple us => exact ⟨us, rfl⟩
      | _ => cases h2.2
    have eR : isRole (lawL b) (.tuple [.tuple ss, .tuple us]) = ((decide (1 ≤ ss.length) && decide (ss.length ≤ 12)) && (ss.all (isState (lawL b) ss.length) && isUps ("" :: srt (marksOf ss)) ss.length (.tuple us))) := by
      show (decide (1 ≤ ss.length) && decide (ss.length ≤ 12) && ss.all (isState (lawL b) ss.length) && isUps ("" :: srt (marksOf ss)) ss.length (.tuple us)) = _
      rw [Bool.and_assoc (decide (1 ≤ ss.length) && decide (ss.length ≤ 12))]
    rw [eR] at q
    obtain ⟨a, xs, rfl, _, ha, hx⟩ := hd.tup
    obtain ⟨x1, x2, rfl, d1, d2⟩ := hx.two
    have fs : fit (.tuple ss) = true := fit_mem hf (by simp)
    have fu : fit (.tuple us) = true := fit_mem hf (by simp)
    obtain ⟨aS, ys, rfl, _, haS, hy⟩ := d1.tup
    obtain ⟨aU, zs, rfl, _, haU, hz⟩ := d2.tup
    refine q_unp (Evl.ev_var rfl) (Evl.ex_t e1 (Evl.st_of ha)) rfl fun H2 e2 => ⟨.ref aS, _, rfl, .ref aU, _, rfl, rfl, ?_⟩
    have e12 := e1.trans e2
    refine Evl.q_when (b := !(decide (1 ≤ ss.length) && decide (ss.length ≤ 12))) ?_ (fun h3 H3 e3 => ?_) (fun h3 H3 e3 => ?_)
    · have e5 : (decide (1 ≤ ss.length) && decide (ss.length ≤ 12)) = (decide ((1 : Int) ≤ (ys.length : Int)) && decide ((ys.length : Int) ≤ 12)) := by
        rw [hy.length]
        congr 1 <;> exact decide_eq_decide.mpr ⟨fun _ => by omega, fun _ => by omega⟩
      rw [e5]
      exact Evl.et_not (Evl.et_test (ev_chain Evl.ev_c (ev_lenT (Evl.ev_var rfl) (Evl.st_of (e12 _ _ haS))) Evl.rv_I0 (fun _ => Evl.ev_c) (fun _ => Evl.rv_I0)))
    · rw [Bool.not_eq_true'] at h3
      rw [h3, Bool.false_and] at q
      exact Evl.s_ret Evl.ev_c fun H4 e4 => q H4 (e12.trans (e3.trans e4))
    · rw [Bool.not_eq_false'] at h3
      rw [h3, Bool.true_and] at q
      have h12 : ss.length ≤ 12 := by
        rw [Bool.and_eq_true] at h3
        exact of_decide_eq_true h3.2
      have e13 := e12.trans e3
      have hn : ((ys.length : Nat) : Int) = (ss.length : Int) := by rw [hy.length]
      -- the states
      refine Evl.q_forT (K := K) (a := aS) (xs := ys) (Evl.ev_var rfl) (Evl.st_of (e13 _ _ haS)) (fun i σ' H' => Ex H H' ∧ (ss.take i).all (isState (lawL b) ss.length) = true ∧ ∃ y4, σ' = [some (.ref a), some (.bl b), some (.ref aS), some (.ref aU), y4, none, none])
        (fun H4 e4 => ⟨e13.trans e4, by rw [List.take_zero]; rfl, none, rfl⟩) (fun i σ' H' _ p => Evl.st_of (p.1 _ _ haS)) (fun i x σ' H' hi p => ?_) (fun σ' H' p => ?_)
      · obtain ⟨p1, p2, y4, rfl⟩ := p
        obtain ⟨st, hst, hq⟩ := hy.getV hi
        have hq' := Dq.same p1 hq
        have fp : fit st = true := fit_mem fs (List.mem_of_getElem? hst)
        have bad : isState (lawL b) ss.length st = false → ∀ H', Ex H H' → Q (.bl false) H' := fun hb H' e => by
          have k1 : ss.all (isState (lawL b) ss.length) = false := by
            rw [List.all_eq_false]
            exact ⟨st, List.mem_of_getElem? hst, by rw [hb]; decide⟩
          rw [k1, Bool.false_and] at q
          exact q H' e
        refine Evl.q_when (b := cutS1 st) (et_two (K := K) (k := kS) hq' (Evl.ev_var rfl) fun e r e0 => ?_) (fun h4 H4 e4 => ?_) (fun h4 H4 e4 => ?_)
        · subst e0
          obtain ⟨u0, du0, i0⟩ := ev_item (K := K) (σ := [some (.ref a), some (.bl b), some (.ref aS), some (.ref aU), some x, none, none]) (i := 0) hq' rfl
          exact Evl.et_not (Evl.et_B (ev_textD (zs := ends) du0 (fit_mem fp (by simp)) (i0 (Ex.refl _) (Evl.ev_var rfl) Evl.ev_c) (Evl.eu_tup (Evl.ea_cons Evl.ev_c (Evl.ea_cons Evl.ev_c (Evl.ea_cons Evl.ev_c Evl.ea_nil))) (by decide))))
        · refine Evl.s_ret Evl.ev_c fun H5 e5 => bad ?_ H5 (p1.trans (e4.trans e5))
          cases h2 : isTupN 2 st with
          | false => exact isState_off h2
          | true =>
            obtain ⟨ds, rfl, hl⟩ := isTupN_iff (n := 2) h2
            match ds, hl with
            | [e, r], _ =>
              have h5 : (!true || (!isTupN 2 (.tuple [e, r]) || !anyS ends e)) = true := h4
              rw [h2] at h5
              have h6 : anyS ends e = false := by simpa using h5
              rw [state_eq, h6, Bool.false_and]
        · obtain ⟨e, r, rfl⟩ := two_of h4
          have h5 : anyS ends e = true := by
            have q1 : (!true || (!isTupN 2 (.tuple [e, r]) || !anyS ends e)) = false := h4
            rw [Bool.or_eq_false_iff, Bool.or_eq_false_iff] at q1
            simpa using q1.2.2
          obtain ⟨u1, du1, i1⟩ := ev_item (K := K) (σ := [some (.ref a), some (.bl b), some (.ref aS), some (.ref aU), some x, none, none]) (i := 1) (Dq.same e4 hq') rfl
          have eS := state_eq (tos := lawL b) (n := ss.length) e r
          rw [h5, Bool.true_and] at eS
          refine Evl.q_when (b := !isTup r || longer 6 r) (Evl.et_or (Evl.et_not (Evl.et_B (ev_isi (i1 (Ex.refl _) (Evl.ev_var rfl) Evl.ev_c) du1 (kb_tup r)))) fun hs => ?_) (fun h6 H5 e5 => ?_) (fun h6 H5 e5 => ?_)
          · cases r with
            | tuple rs => exact et_lenGt (n := 6) du1 (i1 (Ex.refl _) (Evl.ev_var rfl) Evl.ev_c) Evl.ev_c
            | _ => cases hs
          · refine Evl.s_ret Evl.ev_c fun H6 e6 => bad ?_ H6 (p1.trans (e4.trans (e5.trans e6)))
            rw [eS]
            cases r with
            | tuple rs =>
              have h7 : decide (6 < rs.length) = true := h6
              have h8 := of_decide_eq_true h7
              show (true && (decide (rs.length ≤ 6) && _)) = false
              rw [decide_eq_false (by omega), Bool.false_and, Bool.and_false]
            | _ => rfl
          · cases r with
            | tuple rs =>
              have h7 : decide (6 < rs.length) = false := h6
              have h8 := of_decide_eq_false h7
              have eS2 : isState (lawL b) ss.length (.tuple [e, .tuple rs]) = rs.all (isRule (lawL b) ss.length) := by
                rw [eS]
                show (true && (decide (rs.length ≤ 6) && _)) = _
                rw [decide_eq_true (by omega), Bool.true_and, Bool.true_and]
              have fr : fit (.tuple rs) = true := fit_mem fp (by simp)
              obtain ⟨c, us2, rfl, _, hc, hu⟩ := (Dq.same e5 du1).tup
              have st5 : ∀ {H6 : Hp}, Ex H5 H6 → Ev (tOp (rIxT K) (tVar 4) (tC (.int 1))) [some (.ref a), some (.bl b), some (.ref aS), some (.ref aU), some x, none, none] H6 (.ref c) := fun e6 => i1 (e5.trans e6) (Evl.ev_var rfl) Evl.ev_c
              refine Evl.s_when (b := !(rs.all (isRule (lawL b) ss.length))) ?_ (fun h9 H6 e6 => ?_) (fun h9 H6 e6 => ?_)
              · refine Evl.et_test ?_
                rw [← given_empty rs (isRule (lawL b) ss.length) (fun i => us2[i]?.getD .non)]
                refine Evl.ev_opLL ?_ (Evl.el_lst Evl.ea_nil (by decide)) (fun p q' H7 hh1 hh2 _ => rv_nnilL (Evl.sq_of hh1) (Evl.sq_of hh2))
                rw [← hu.length]
                refine el_lcT (fun i => [some (.ref a), some (.bl b), some (.ref aS), some (.ref aU), some x, some (us2[i]?.getD .non), none]) _ _ (st5 (Ex.refl _)) (Evl.st_of hc) (by rw [hu.length]; exact (fit_tup fr).1) (fun i y H7 e7 hi2 k qk => ?_) (fun i => rfl) (fun i y H7 e7 hi2 => ?_) (fun i y H7 e7 hi2 _ => Evl.ev_var rfl)
                · rw [hi2] at qk
                  exact qk H7 (Ex.refl H7)
                · obtain ⟨rd, hrd, hrq⟩ := hu.getV hi2
                  rw [hrd, hi2]
                  refine Evl.et_not (Evl.et_B ?_)
                  refine ev_def (vs := [y, .bl b, .int (ys.length : Int)]) (Evl.ea_cons (Evl.ev_var rfl) (Evl.ea_cons (Evl.ev_var rfl) (Evl.ea_cons (ev_lenT (Evl.ev_var rfl) (Evl.st_of (e7 _ _ (e5 _ _ (e4 _ _ (p1 _ _ haS)))))) Evl.ea_nil))) fun H8 e8 => ?_
                  exact ⟨D, rd, y, b, ss.length, by rw [hn], Dq.same (e7.trans e8) hrq, fit_mem fr (List.mem_of_getElem? hrd), rfl⟩
              · rw [Bool.not_eq_true'] at h9
                exact Evl.s_ret Evl.ev_c fun H7 e7 => bad (by rw [eS2, h9]) H7 (p1.trans (e4.trans (e5.trans (e6.trans e7))))
              · rw [Bool.not_eq_false'] at h9
                refine ⟨p1.trans (e4.trans (e5.trans e6)), ?_, some x, rfl⟩
                rw [List.take_add_one, hst, List.all_append, p2]
                show (true && (isState (lawL b) ss.length _ && true)) = true
                rw [eS2, h9]
                rfl
            | _ => exact absurd h6 (by simp [isTup])
      · obtain ⟨p1, p2, y4, rfl⟩ := p
        rw [hy.length, List.take_length] at p2
        rw [p2, Bool.true_and] at q
        obtain ⟨wf, few⟩ := states_ok p2 h12
        -- the ups
        refine Evl.q_forT (K := K) (a := aU) (xs := zs) (Evl.ev_var rfl) (Evl.st_of (p1 _ _ haU)) (fun i σ' H'' => Ex H H'' ∧ (∀ u ∈ us.take i, upOk ss.length u = true) ∧ ∃ y6, σ' = [some (.ref a), some (.bl b), some (.ref aS), some (.ref aU), y4, none, y6])
          (fun H4 e4 => ⟨p1.trans e4, (fun u hu => by rw [List.take_zero] at hu; cases hu), none, rfl⟩) (fun i σ' H' _ p => Evl.st_of (p.1 _ _ haU)) (fun i x σ' H' hi p => ?_) (fun σ' H' p => ?_)
        · obtain ⟨r1, r2, y6, rfl⟩ := p
          obtain ⟨ud, hud, hq⟩ := hz.getV hi
          have hq' := Dq.same r1 hq
          have fp : fit ud = true := fit_mem fu (List.mem_of_getElem? hud)
          refine Evl.s_when (b := cutU ss.length ud) (et_two (K := K) (k := kU ss.length) hq' (Evl.ev_var rfl) fun k g e0 => ?_) (fun h4 H4 e4 => ?_) (fun h4 H4 e4 => ?_)
          · subst e0
            obtain ⟨u0, du0, i0⟩ := ev_item (K := K) (σ := [some (.ref a), some (.bl b), some (.ref aS), some (.ref aU), y4, none, some x]) (i := 0) hq' rfl
            obtain ⟨u1, du1, i1⟩ := ev_item (K := K) (σ := [some (.ref a), some (.bl b), some (.ref aS), some (.ref aU), y4, none, some x]) (i := 1) hq' rfl
            refine Evl.et_or (Evl.et_not (Evl.et_B (ev_isi (i0 (Ex.refl _) (Evl.ev_var rfl) Evl.ev_c) du0 (kb_str k)))) fun _ => Evl.et_not (Evl.et_B ?_)
            refine ev_def (vs := [u1, .int (ys.length : Int)]) (Evl.ea_cons (i1 (Ex.refl _) (Evl.ev_var rfl) Evl.ev_c) (Evl.ea_cons (ev_lenT (Evl.ev_var rfl) (Evl.st_of (r1 _ _ haS))) Evl.ea_nil)) fun H5 e5 => ?_
            exact ⟨D, g, u1, ss.length, by rw [hn], Dq.same e5 du1, rfl⟩
          · rw [cutU_eq, Bool.not_eq_true'] at h4
            rw [ups_bad (List.mem_of_getElem? hud) h4] at q
            exact Evl.s_ret Evl.ev_c fun H5 e5 => q H5 (r1.trans (e4.trans e5))
          · rw [cutU_eq, Bool.not_eq_false'] at h4
            refine ⟨r1.trans e4, fun u hu => ?_, some x, rfl⟩
            rw [List.take_add_one, hud] at hu
            rcases List.mem_append.mp hu with hu | hu
            · exact r2 u hu
            · have e9 : u = ud := by simpa using hu
              rw [e9]
              exact h4
        · obtain ⟨r1, r2, y6, rfl⟩ := p
          rw [hz.length, List.take_length] at r2
          rw [ups_good r2] at q
          have lc : EvL (tLc (iTup K (tVar 3)) (gName 6) tYes (tOp (rIxT K) (tVar 6) (tC (.int 0))) [6]) [some (.ref a), some (.bl b), some (.ref aS), some (.ref aU), y4, none, y6] H' ((us.map keyOf).map V.str) := by
            have el := el_lcT (K := K) (σ := [some (.ref a), some (.bl b), some (.ref aS), some (.ref aU), y4, none, y6]) (H := H') (tl := tVar 3) (xs := zs) (a := aU) (g := gName 6) (vs := [6]) (t := tYes) (te := tOp (rIxT K) (tVar 6) (tC (.int 0)))
              (fun i => [some (.ref a), some (.bl b), some (.ref aS), some (.ref aU), y4, none, some (zs[i]?.getD .non)]) (fun _ => true) (fun i => .str (keyOf (us[i]?.getD .none))) (Evl.ev_var rfl) (Evl.st_of (r1 _ _ haU)) (by rw [hz.length]; exact (fit_tup fu).1)
              (fun i y H7 e7 hi2 k qk => by rw [hi2] at qk; exact qk H7 (Ex.refl H7)) (fun i => rfl) (fun i y H7 e7 hi2 => et_yes) (fun i y H7 e7 hi2 _ => by
                obtain ⟨rd, hrd, hrq⟩ := hz.getV hi2
                obtain ⟨g, eg⟩ := upOk_shape (r2 rd (List.mem_of_getElem? hrd))
                rw [hrd, hi2]
                rw [eg] at hrq
                obtain ⟨u0, du0, i0⟩ := ev_item (K := K) (σ := [some (.ref a), some (.bl b), some (.ref aS), some (.ref aU), y4, none, some y]) (i := 0) (Dq.same (r1.trans e7) hrq) rfl
                unfold Dq at du0
                rw [du0] at i0
                exact i0 (Ex.refl _) (Evl.ev_var rfl) Evl.ev_c)
            rw [hz.length, given_all] at el
            have e9 : (List.range us.length).map (fun i => V.str (keyOf (us[i]?.getD .none))) = (us.map keyOf).map V.str := by
              apply List.ext_getElem
              · simp
              · intro i hh1 hh2
                have h3 : i < us.length := by simpa using hh1
                simp [List.getElem?_eq_getElem h3]
            rw [e9] at el
            exact el
          refine lc H' (Ex.refl H') (fun x H1 => tOp rCat (tLst (tCons (tC (.str "")) tNil)) (tCall spLMarks [] E0 (tCons (tVar 0) tNil)) [some (.ref a), some (.bl b), some (.ref aS), some (.ref aU), y4, none, y6] H1 fun y H2 => rStrsEq K x y H2 Q) fun p H1 hp f1 hh1 => ?_
          refine ⟨by decide, fun p2 hp2 => ?_⟩
          have f2 := f1.trans (Ex.new (o := .lst [.str ""]) hp2)
          have f3 := r1.trans f2
          refine ⟨_, rfl, D, ss, a, .ref aS, [.ref aU], rfl, f3 _ _ ha, Dq.same f3 d1, wf, few, fun r H3 g3 hr3 hs hl hr => ?_⟩
          refine ⟨p2, r, _, _, rfl, rfl, g3 _ _ upd_same, hr, ?_, fun t ht => ?_⟩
          · rw [List.length_map]
            exact Nat.le_trans (show 1 + (srt (marksOf ss)).length ≤ 5000 by omega) (by decide)
          · refine ⟨p, t, us.map keyOf, "" :: srt (marksOf ss), rfl, rfl, Evl.sq_of ?_, Evl.sq_of (by rw [upd_same]; rfl), q _ ((f3.trans g3).trans (Ex.new ht))⟩
            have n1 : p ≠ t := ne_of_none (g3 _ _ (Ex.new hp2 _ _ hh1)) ht
            rw [upd_ne n1]
            exact g3 _ _ (Ex.new hp2 _ _ hh1)
theorem sc_l_prot : FnScope ["_law_thing"] ["_law_thing"] (defScope (top 48)) := ⟨rfl, rfl, rfl, by decide +kernel, rfl, by decide +kernel, by decide +kernel⟩
theorem ok_l_prot (F : Def K mg "_law_is_protocol" (top 48) ["_law_thing"]) (B : Bl mg) (c__law_is_role : Cal P w K mg base 4 "_law_is_role" (spV RLo)) : Cal P w K mg base 5 "_law_is_protocol" (spV (R1f isProt)) := by
  refine Cal.of F sc_l_prot (len_spV fun vs H z ⟨D, d, v, h, _⟩ => by rw [h]; rfl) (fun f cdv A outer s H vs Q E hr h => ?_)
  obtain ⟨z, ⟨D, d, v, rfl, hd, hf, rfl⟩, q⟩ := h
  refine ⟨_, (pss_one (ps_ret (pe_and (pe_callB call_isi (by rfl) B.isinstance b_isinstance (pa_cons (pv 0) (pa_cons (pty B.tuple b_tuple) pa_nil))) (pe_and (pe_cmpR op_eq (pe_callB call_len_seq (by rfl) B.len b_len (pa_cons (pv 0) pa_nil)) pe_int (nomark _)) (pe_and (pcall c__law_is_role hr (pa_cons (pe_ix ix_tup (pv 0) pe_int (fun _ _ => rfl)) (pa_cons pe_bl pa_nil))) (pe_one (pcall c__law_is_role hr (pa_cons (pe_ix ix_tup (pv 0) pe_int (fun _ _ => rfl)) (pa_cons pe_bl pa_nil))))))))), ?_⟩
  have key : isProt d = (isTup d && (isTupN 2 d && isProt d)) := by
    cases h2 : isTupN 2 d with
    | false => rw [isProt_off h2, Bool.and_false, Bool.and_false]
    | true =>
      obtain ⟨ds, rfl, _⟩ := isTupN_iff (n := 2) h2
      rfl
  rw [key] at q
  refine Evl.s_ret (Evl.ev_andV (ev_isi (Evl.ev_var rfl) hd (kb_tup d)) fun ht => ?_) q
  cases d with
  | tuple ds =>
    obtain ⟨a, xs, rfl, _, ha, hx⟩ := hd.tup
    refine Evl.ev_andV ?_ fun h2 => ?_
    · have e2 : (V.bl (isTupN 2 (.tuple ds))) = V.bl (decide (V.int (xs.length : Int) = V.int 2)) := by
        rw [hx.length]
        exact congrArg V.bl (decide_eq_decide.mpr ⟨fun e => by rw [e], fun e => V.int.inj e⟩)
      rw [e2]
      exact Evl.ev_op (ev_lenT (Evl.ev_var rfl) (Evl.st_of ha)) Evl.ev_c (Evl.rv_eq rfl)
    · obtain ⟨ds2, e, hl⟩ := isTupN_iff (n := 2) h2
      cases e
      match ds, hl with
      | [l, m], _ =>
        obtain ⟨x1, x2, rfl, d1, d2⟩ := hx.two
        refine Evl.ev_andV (ev_def (Evl.ea_cons (ev_ixT (i := 0) (Evl.ev_var rfl) Evl.ev_c (Evl.st_of ha) rfl) (Evl.ea_cons Evl.ev_c Evl.ea_nil)) fun H1 e1 => ⟨D, l, x1, true, rfl, Dq.same e1 d1, fit_mem hf (by simp), rfl⟩) fun _ => ?_
        exact ev_def (Evl.ea_cons (ev_ixT (i := 1) (Evl.ev_var rfl) Evl.ev_c (Evl.st_of ha) rfl) (Evl.ea_cons Evl.ev_c Evl.ea_nil)) fun H1 e1 => ⟨D, m, x2, false, rfl, Dq.same e1 d2, fit_mem hf (by simp), rfl⟩
  | _ => cases ht
end
end Al
namespace Al
open PySem PySem.Spec PyProof.Rows L2
open Evl (Ex Ev EvT EvA EvL EvU SpV RV RC RCL)
/-! ### the deck: a dict at d, its list at l -/
def Dd (d l : Addr) : Ban := fun a => a = d ∨ a = l
def dk3 (l : Addr) (m n : Int) : List (Key × V) := [(.inr "left", .ref l), (.inr "mixed", .int m), (.inr "draws", .int n)]
structure DkAt (d l : Addr) (m n : Int) (ns : List Int) (H : Hp) : Prop where
  ne : d ≠ l
  dk : H d = some (.dK (dk3 l m n))
  ls : H l = some (.lst (ns.map V.int))
  few : ns.length ≤ 63
def Dk (d l : Addr) (H : Hp) : Prop := ∃ m n ns, DkAt d l m n ns H
theorem DkAt.ex {d l : Addr} {m n : Int} {ns : List Int} {H H' : Hp} (h : DkAt d l m n ns H) (e : Ex H H') : DkAt d l m n ns H' := ⟨h.ne, e _ _ h.dk, e _ _ h.ls, h.few⟩
theorem Dk.ex {d l : Addr} {H H' : Hp} (h : Dk d l H) (e : Ex H H') : Dk d l H' := by
  obtain ⟨m, n, ns, q⟩ := h
  exact ⟨m, n, ns, q.ex e⟩
theorem gr_ex {D : Ban} {H H' : Hp} (e : Ex H H') : Gr D H H' := fun a o _ h => e a o h
theorem gr_upd {D : Ban} {H H' : Hp} {a : Addr} {o : HO} (g : Gr D H H') (h : D a) : Gr D H (upd H' a o) := fun b u n e => by
  have nb : b ≠ a := fun z => n (by rw [z]; exact h)
  rw [upd_ne nb]
  exact g b u n e
theorem DkAt.putD {d l : Addr} {m n m' n' : Int} {ns : List Int} {H : Hp} (h : DkAt d l m n ns H) : DkAt d l m' n' ns (upd H d (.dK (dk3 l m' n'))) := ⟨h.ne, upd_same, by rw [upd_ne (Ne.symm h.ne)]; exact h.ls, h.few⟩
theorem DkAt.putL {d l : Addr} {m n : Int} {ns ns' : List Int} {H : Hp} (h : DkAt d l m n ns H) (few : ns'.length ≤ 63) : DkAt d l m n ns' (upd H l (.lst (ns'.map V.int))) := ⟨h.ne, by rw [upd_ne h.ne]; exact h.dk, upd_same, few⟩
theorem put_draws {l : Addr} {m n k : Int} : putK (dk3 l m n) (.inr "draws") (.int k) = dk3 l m k := by rfl
theorem put_mixed {l : Addr} {m n k : Int} : putK (dk3 l m n) (.inr "mixed") (.int k) = dk3 l k n := by rfl
section
variable {K : PySem.W.Frag} {σ : L2.St} {H : Hp} {ta tb tc td te tl tk tv : TE} {t : TT} {x y z v : V} {Dn : Ends} {tz : TS}
theorem ev_dget {d : Addr} {kvs : List (Key × V)} {k : Str} (hd : Ev td σ H (.ref d)) (hk : Ev tk σ H (.str k)) (h : H d = some (.dK kvs)) (hv : valV kvs (.inr k) = some v) : Ev (tDGet td tk) σ H v := fun H1 e Q q =>
  hd H1 e _ fun H2 e2 => hk H2 (e.trans e2) _ fun H3 e3 => ⟨d, v, rfl, by
    have g := DGet.k (k := Sum.inr k) (((e.trans e2).trans e3) _ _ h)
    rw [hv] at g
    exact g, q H3 (e2.trans e3)⟩
theorem q_dput {d : Addr} {kvs : List (Key × V)} {k : Str} (hv : Ev tv σ H v) (hd : Ev td σ H (.ref d)) (hk : Ev tk σ H (.str k)) (h : H d = some (.dK kvs)) (few : kvs.length ≤ 100) (next : ∀ H1, Ex H H1 → tz Dn σ (upd H1 d (.dK (putK kvs (.inr k) v)))) : tSeq (sDPut td tk tv) tz Dn σ H :=
  hv H (Ex.refl H) _ fun H1 e1 => hd H1 e1 _ fun H2 e2 => hk H2 (e1.trans e2) _ fun H3 e3 => ⟨d, _, rfl, DPut.k (k := Sum.inr k) (((e1.trans e2).trans e3) _ _ h) (Nat.lt_of_le_of_lt few (by decide)), next H3 ((e1.trans e2).trans e3)⟩
theorem ev_int1 {i : Int} (h : Ev ta σ H (.int i)) : Ev (tCB (fun xs H Q => (∃ i, xs = [.int i] ∧ Q (.int i) H) ∨ ∃ k, xs = [.bl k] ∧ Q (.int (if k then 1 else 0)) H) (tCons ta tNil)) σ H (.int i) := fun H1 e Q q => h H1 e _ fun H2 e2 => .inl ⟨i, rfl, q H2 e2⟩
theorem ev_add {i j : Int} (h1 : Ev ta σ H (.int i)) (h2 : Ev tb σ H (.int j)) : Ev (tOp (rI0 fun i j => .int (i + j)) ta tb) σ H (.int (i + j)) := Evl.ev_op h1 h2 Evl.rv_I0
theorem ev_sub {i j : Int} (h1 : Ev ta σ H (.int i)) (h2 : Ev tb σ H (.int j)) : Ev (tOp (rI0 fun i j => .int (i - j)) ta tb) σ H (.int (i - j)) := Evl.ev_op h1 h2 Evl.rv_I0
theorem ev_mul {i j : Int} (h1 : Ev ta σ H (.int i)) (h2 : Ev tb σ H (.int j)) (c : CMul i j) : Ev (tOp (rI CMul fun i j => .int (i * j)) ta tb) σ H (.int (i * j)) := Evl.ev_op h1 h2 (Evl.rv_I c)
theorem ev_mod {i j : Int} (h1 : Ev ta σ H (.int i)) (h2 : Ev tb σ H (.int j)) (c : 0 < j) : Ev (tOp (rI (fun _ j => 0 < j) fun i j => .int (i % j)) ta tb) σ H (.int (i % j)) := Evl.ev_op h1 h2 (Evl.rv_I c)
theorem ev_fdiv {i j : Int} (h1 : Ev ta σ H (.int i)) (h2 : Ev tb σ H (.int j)) (c : CDiv i j) : Ev (tOp (rI CDiv fun i j => .int (i / j)) ta tb) σ H (.int (i / j)) := Evl.ev_op h1 h2 (Evl.rv_I c)
theorem ev_pow {i j : Int} (h1 : Ev ta σ H (.int i)) (h2 : Ev tb σ H (.int j)) (c : CPow i j) : Ev (tOp (rI CPow fun i j => .int (i ^ j.toNat)) ta tb) σ H (.int (i ^ j.toNat)) := Evl.ev_op h1 h2 (Evl.rv_I c)
theorem lit_r {i j : Int} (h : -(2 ^ 64) < j ∧ j < 2 ^ 64) : CMul i j := .inr h
theorem lit_l {i j : Int} (h : -(2 ^ 64) < i ∧ i < 2 ^ 64) : CMul i j := .inl h
end
/-- an integer below many -/
def spDraw : Sp := fun vs H Q _ => ∃ (d l : Addr) (many : Int), vs = [.ref d, .int many] ∧ Dk d l H ∧ 1 ≤ many ∧ many ≤ 100000 ∧ ∀ r H', 0 ≤ r → r < many → Gr (Dd d l) H H' → Dk d l H' → Q (.int r) H'
section
variable {P : Program} {w : World} {K : PySem.W.Frag} {mg : Str → Option Value} {base : Heap}
theorem sc_draw : FnScope ["_law_deck_here", "_law_many", "_law_cell", "_law_figure"] ["_law_deck_here", "_law_many"] (defScope (top 37)) := ⟨rfl, rfl, rfl, by decide +kernel, rfl, by decide +kernel, by decide +kernel⟩
set_option maxHeartbeats 4000000 in
theorem ok_draw (F : Def K mg "_law_draw" (top 37) ["_law_deck_here", "_law_many"]) (B : Bl mg) : Cal P w K mg base 1 "_law_draw" spDraw := by
  refine Cal.of F sc_draw (fun vs H Q E ⟨d, l, many, e, _⟩ => by rw [e]; rfl) (fun f cdv A outer s H vs Q E hr h => ?_)
  obtain ⟨d, l, many, rfl, ⟨m, n, ns, hk⟩, h1, h2, q⟩ := h
  have hu := hu1 hr
  refine ⟨_, (pss_cons (ps_dput hu (pv 0) pe_str (pe_op op_add (pe_dget hu (pv 0) pe_str (fun _ _ => rfl)) pe_int) rfl)
      (pss_cons (ps_if (pt_cmpR (op_neNilL hu) (pe_dget hu (pv 0) pe_str (fun _ _ => rfl)) (pe_lst pa_nil) (nomark _)) (pss_cons (ps_set (i := 2) sc_draw.nd rfl (.inl rfl) (pe_bm0 PySem.F.plainAttrs_list PySem.F.slot_list_pop PySem.F.type_list_pop mt_pop (pe_dget hu (pv 0) pe_str (fun _ _ => rfl))))
        (pss_cons (ps_if (pt_cmpR op_ge (pv 2) (pe_op op_pow pe_int pe_int) (nomark _)) (pss_cons (ps_expr (pe_bm PySem.F.plainAttrs_list PySem.F.slot_list_append PySem.F.type_list_append mt_append (pe_dget hu (pv 0) pe_str (fun _ _ => rfl)) (pa_cons (pe_op op_fdiv (pv 2) (pe_callB (call_max2 rfl) (by rfl) B.max b_max (pa_cons pe_int (pa_cons (pv 1) pa_nil)))) pa_nil)))
          (pss_one (ps_ret (pe_op op_mod (pe_callTy call_int1 (by rfl) B.int b_int (pa_cons (pv 2) pa_nil)) (pv 1))))) pss_nil)
        (pss_one (ps_dput hu (pv 0) pe_str (pe_op op_mod (pe_callTy call_int1 (by rfl) B.int b_int (pa_cons (pe_op op_add (pe_op op_add (pe_op op_mul (pe_dget hu (pv 0) pe_str (fun _ _ => rfl)) pe_int) (pe_op op_mod (pe_callTy call_int1 (by rfl) B.int b_int (pa_cons (pv 2) pa_nil)) pe_int)) pe_int) pa_nil)) pe_int) rfl)))) pss_nil)
      (pss_cons (ps_set (i := 3) sc_draw.nd rfl (.inl rfl) (pe_op op_mod (pe_callTy call_int1 (by rfl) B.int b_int (pa_cons (pe_op op_add (pe_dget hu (pv 0) pe_str (fun _ _ => rfl)) (pe_op op_mul pe_int (pe_dget hu (pv 0) pe_str (fun _ _ => rfl)))) pa_nil)) pe_int))
      (pss_cons (ps_set (i := 3) sc_draw.nd rfl (.inl rfl) (pe_op op_mod (pe_callTy call_int1 (by rfl) B.int b_int (pa_cons (pe_op op_add (pe_op op_add (pe_op op_mul (pv 3) (pv 3)) (pe_op op_mul pe_int (pe_dget hu (pv 0) pe_str (fun _ _ => rfl)))) pe_int) pa_nil)) pe_int))
      (pss_cons (ps_set (i := 3) sc_draw.nd rfl (.inl rfl) (pe_op op_mod (pe_callTy call_int1 (by rfl) B.int b_int (pa_cons (pe_op op_add (pe_op op_mul (pv 3) pe_int) pe_int) pa_nil)) pe_int))
      (pss_one (ps_ret (pe_op op_mod (pe_callTy call_int1 (by rfl) B.int b_int (pa_cons (pe_op op_fdiv (pv 3) pe_int) pa_nil)) (pv 1))))))))), ?_⟩
  -- the last four statements, from any deck
  have tail : ∀ (H0 : Hp) (y2 : Option V) (m n : Int) (ns : List Int), DkAt d l m n ns H0 → Gr (Dd d l) H H0 →
      (tSeq (tAsg (tOp (rI (fun _ j => 0 < j) fun i j => .int (i % j)) (tCB (fun xs H Q => (∃ i, xs = [.int i] ∧ Q (.int i) H) ∨ ∃ k, xs = [.bl k] ∧ Q (.int (if k then 1 else 0)) H) (tCons (tOp (rI0 fun i j => .int (i + j)) (tDGet (tVar 0) (tC (.str "mixed"))) (tOp (rI CMul fun i j => .int (i * j)) (tC (.int 31337)) (tDGet (tVar 0) (tC (.str "draws"))))) tNil)) (tC (.int 2147483647))) (gName 3))
      (tSeq (tAsg (tOp (rI (fun _ j => 0 < j) fun i j => .int (i % j)) (tCB (fun xs H Q => (∃ i, xs = [.int i] ∧ Q (.int i) H) ∨ ∃ k, xs = [.bl k] ∧ Q (.int (if k then 1 else 0)) H) (tCons (tOp (rI0 fun i j => .int (i + j)) (tOp (rI0 fun i j => .int (i + j)) (tOp (rI CMul fun i j => .int (i * j)) (tVar 3) (tVar 3)) (tOp (rI CMul fun i j => .int (i * j)) (tC (.int 48271)) (tDGet (tVar 0) (tC (.str "draws"))))) (tC (.int 31))) tNil)) (tC (.int 2147483629))) (gName 3))
      (tSeq (tAsg (tOp (rI (fun _ j => 0 < j) fun i j => .int (i % j)) (tCB (fun xs H Q => (∃ i, xs = [.int i] ∧ Q (.int i) H) ∨ ∃ k, xs = [.bl k] ∧ Q (.int (if k then 1 else 0)) H) (tCons (tOp (rI0 fun i j => .int (i + j)) (tOp (rI CMul fun i j => .int (i * j)) (tVar 3) (tC (.int 69621))) (tC (.int 77))) tNil)) (tC (.int 2147483563))) (gName 3))
      (tRet (tOp (rI (fun _ j => 0 < j) fun i j => .int (i % j)) (tCB (fun xs H Q => (∃ i, xs = [.int i] ∧ Q (.int i) H) ∨ ∃ k, xs = [.bl k] ∧ Q (.int (if k then 1 else 0)) H) (tCons (tOp (rI CDiv fun i j => .int (i / j)) (tVar 3) (tC (.int 64))) tNil)) (tVar 1))))))
        { nx := fun _ H' => Q .non H', rt := Q } [some (.ref d), some (.int many), y2, none] H0 := fun H0 y2 m n ns hk g => by
    refine Evl.q_asg (ev_mod (ev_int1 (ev_add (ev_dget (Evl.ev_var rfl) Evl.ev_c hk.dk rfl) (ev_mul Evl.ev_c (ev_dget (Evl.ev_var rfl) Evl.ev_c hk.dk rfl) (lit_l (by decide))))) Evl.ev_c (by decide)) fun H1 e1 => ?_
    have b1 : 0 ≤ (m + 31337 * n) % 2147483647 := Int.emod_nonneg _ (by decide)
    have b2 : (m + 31337 * n) % 2147483647 < 2147483647 := Int.emod_lt_of_pos _ (by decide)
    generalize (m + 31337 * n) % 2147483647 = f1 at b1 b2 ⊢
    have hk1 := hk.ex e1
    refine Evl.q_asg (ev_mod (ev_int1 (ev_add (ev_add (ev_mul (Evl.ev_var rfl) (Evl.ev_var rfl) (lit_l ⟨by omega, by omega⟩)) (ev_mul Evl.ev_c (ev_dget (Evl.ev_var rfl) Evl.ev_c hk1.dk rfl) (lit_l (by decide)))) Evl.ev_c)) Evl.ev_c (by decide)) fun H2 e2 => ?_
    refine Evl.q_asg (ev_mod (ev_int1 (ev_add (ev_mul (Evl.ev_var rfl) Evl.ev_c (lit_r (by decide))) Evl.ev_c)) Evl.ev_c (by decide)) fun H3 e3 => ?_
    refine Evl.s_ret (ev_mod (ev_int1 (ev_fdiv (Evl.ev_var rfl) Evl.ev_c ⟨by decide, by decide⟩)) (Evl.ev_var rfl) (by omega)) fun H4 e4 => ?_
    have e04 := e1.trans (e2.trans (e3.trans e4))
    exact q _ H4 (Int.emod_nonneg _ (by omega)) (Int.emod_lt_of_pos _ (by omega)) (g.trans (gr_ex e04)) ⟨m, n, ns, hk.ex e04⟩
  refine q_dput (ev_add (ev_dget (Evl.ev_var rfl) Evl.ev_c hk.dk rfl) Evl.ev_c) (Evl.ev_var rfl) Evl.ev_c hk.dk (by show 3 ≤ 100; decide) fun H1 e1 => ?_
  rw [put_draws]
  have k1 : DkAt d l m (n + 1) ns (upd H1 d (.dK (dk3 l m (n + 1)))) := (hk.ex e1).putD
  have g1 : Gr (Dd d l) H (upd H1 d (.dK (dk3 l m (n + 1)))) := gr_upd (gr_ex e1) (.inl rfl)
  generalize upd H1 d (.dK (dk3 l m (n + 1))) = G1 at k1 g1 ⊢
  refine Evl.q_when (b := !(ns.map V.int).isEmpty) (Evl.et_test (Evl.ev_opL (ev_dget (Evl.ev_var rfl) Evl.ev_c k1.dk rfl) (Evl.el_lst Evl.ea_nil (by decide)) fun p H4 hp e4 => rv_nnilL (Evl.sq_of (e4 _ _ k1.ls)) (Evl.sq_of hp))) (fun hb G2 e2 => ?_) (fun hb G2 e2 => tail G2 none m (n + 1) ns (k1.ex e2) (g1.trans (gr_ex e2)))
  have k2 := k1.ex e2
  have g2 := g1.trans (gr_ex (D := Dd d l) e2)
  obtain ⟨c, hc⟩ : ∃ c, ns[ns.length - 1]? = some c := by
    cases ns with
    | nil => simp at hb
    | cons a r => exact ⟨_, List.getElem?_eq_getElem (by simp)⟩
  -- the last one of left
  refine ev_dget (Evl.ev_var rfl) Evl.ev_c k2.dk rfl G2 (Ex.refl G2) _ fun G3 e3 => ?_
  have k3 := k2.ex e3
  refine ⟨.inl ⟨rfl, _, Evl.sq_of k3.ls⟩, l, ns.map V.int, .int c, rfl, rfl, k3.ls, by rw [List.length_map, List.getElem?_map, hc]; rfl, ?_⟩
  have few2 : ns.dropLast.length ≤ 62 := by
    rw [List.length_dropLast]
    have := hk.few
    omega
  have em : (ns.map V.int).dropLast = ns.dropLast.map V.int := by rw [List.map_dropLast]
  rw [em]
  have k4 : DkAt d l m (n + 1) ns.dropLast (upd G3 l (.lst (ns.dropLast.map V.int))) := k3.putL (by omega)
  have g4 : Gr (Dd d l) H (upd G3 l (.lst (ns.dropLast.map V.int))) := gr_upd (g2.trans (gr_ex e3)) (.inr rfl)
  generalize upd G3 l (.lst (ns.dropLast.map V.int)) = G4 at k4 g4 ⊢
  refine Evl.q_when (b := decide ((10 : Int) ^ (18 : Int).toNat ≤ c)) (Evl.et_test (Evl.ev_op (Evl.ev_var rfl) (ev_pow Evl.ev_c Evl.ev_c ⟨by decide, by decide, by decide⟩) Evl.rv_I0)) (fun hb5 G5 e5 => ?_) (fun hb5 G5 e5 => ?_)
  · have k5 := k4.ex e5
    refine ev_dget (Evl.ev_var rfl) Evl.ev_c k5.dk rfl G5 (Ex.refl G5) _ fun G6 e6 => ?_
    have k6 := k5.ex e6
    refine ⟨.inl ⟨rfl, _, Evl.sq_of k6.ls⟩, ?_⟩
    refine Evl.ea_cons (ev_fdiv (Evl.ev_var rfl) (Evl.ev_max2 Evl.ev_c (Evl.ev_var rfl)) (by constructor <;> split <;> omega)) Evl.ea_nil G6 (Ex.refl G6) _ fun G7 e7 => ?_
    have k7 := k6.ex e7
    refine ⟨l, ns.dropLast.map V.int, _, rfl, rfl, k7.ls, by rw [List.length_map]; exact Nat.lt_of_le_of_lt few2 (by decide), ?_⟩
    have em2 : ns.dropLast.map V.int ++ [V.int (c / (if many > 2 then many else 2))] = (ns.dropLast ++ [c / (if many > 2 then many else 2)]).map V.int := by rw [List.map_append]; rfl
    rw [em2]
    have k8 : DkAt d l m (n + 1) (ns.dropLast ++ [c / (if many > 2 then many else 2)]) (upd G7 l (.lst ((ns.dropLast ++ [c / (if many > 2 then many else 2)]).map V.int))) := k7.putL (by rw [List.length_append, List.length_singleton]; omega)
    have g8 : Gr (Dd d l) H (upd G7 l (.lst ((ns.dropLast ++ [c / (if many > 2 then many else 2)]).map V.int))) := gr_upd (g4.trans (gr_ex (e5.trans (e6.trans e7)))) (.inr rfl)
    generalize upd G7 l (.lst ((ns.dropLast ++ [c / (if many > 2 then many else 2)]).map V.int)) = G8 at k8 g8 ⊢
    refine Evl.s_ret (ev_mod (ev_int1 (Evl.ev_var rfl)) (Evl.ev_var rfl) (by omega)) fun G9 e9 => ?_
    exact q _ G9 (Int.emod_nonneg _ (by omega)) (Int.emod_lt_of_pos _ (by omega)) (g8.trans (gr_ex e9)) ⟨_, _, _, k8.ex e9⟩
  · have k5 := k4.ex e5
    have last : ∀ (tz : TS) (Dn : Ends), (∀ m' G, DkAt d l m' (n + 1) ns.dropLast G → Gr (Dd d l) H G → tz Dn [some (.ref d), some (.int many), some (.int c), none] G) →
        tSeq (sDPut (tVar 0) (tC (.str "mixed")) (tOp (rI (fun _ j => 0 < j) fun i j => .int (i % j)) (tCB (fun xs H Q => (∃ i, xs = [.int i] ∧ Q (.int i) H) ∨ ∃ k, xs = [.bl k] ∧ Q (.int (if k then 1 else 0)) H) (tCons (tOp (rI0 fun i j => .int (i + j)) (tOp (rI0 fun i j => .int (i + j)) (tOp (rI CMul fun i j => .int (i * j)) (tDGet (tVar 0) (tC (.str "mixed"))) (tC (.int 39373))) (tOp (rI (fun _ j => 0 < j) fun i j => .int (i % j)) (tCB (fun xs H Q => (∃ i, xs = [.int i] ∧ Q (.int i) H) ∨ ∃ k, xs = [.bl k] ∧ Q (.int (if k then 1 else 0)) H) (tCons (tVar 2) tNil)) (tC (.int 2147483629)))) (tC (.int 29))) tNil)) (tC (.int 2147483587)))) tz Dn [some (.ref d), some (.int many), some (.int c), none] G5 := fun tz Dn next => by
      refine q_dput (ev_mod (ev_int1 (ev_add (ev_add (ev_mul (ev_dget (Evl.ev_var rfl) Evl.ev_c k5.dk rfl) Evl.ev_c (lit_r (by decide))) (ev_mod (ev_int1 (Evl.ev_var rfl)) Evl.ev_c (by decide))) Evl.ev_c)) Evl.ev_c (by decide)) (Evl.ev_var rfl) Evl.ev_c k5.dk (by show 3 ≤ 100; decide) fun G6 e6 => ?_
      rw [put_mixed]
      exact next _ _ (k5.ex e6).putD (gr_upd (g4.trans (gr_ex (e5.trans e6))) (.inl rfl))
    exact last (fun Dn σ H => Dn.nx σ H) { nx := fun σ H => _, rt := Q } fun m' G kG gG => tail G (some (.int c)) m' (n + 1) ns.dropLast kG gG
end
end Al
namespace Al
open PySem PySem.Spec PyProof.Rows L2
open Evl (Ex Ev EvT EvA EvL EvU SpV RV RC RCL)
/-! ### bans that grow and shrink -/
mutual
theorem Dq.imp {D D' : Ban} {H : Hp} (s : ∀ a, H a ≠ none → D' a → D a) : ∀ (d : PyData) (v : V), Dq D H d v → Dq D' H d v
  | .none, _, h => h
  | .bool _, _, h => h
  | .int _, _, h => h
  | .str _, _, h => h
  | .list ds, _, h => by
    unfold Dq at h ⊢
    obtain ⟨a, xs, e, n, ha, hl⟩ := h
    exact ⟨a, xs, e, fun z => n (s a (by rw [ha]; simp) z), ha, DqL.imp s ds xs hl⟩
  | .tuple ds, _, h => by
    unfold Dq at h ⊢
    obtain ⟨a, xs, e, n, ha, hl⟩ := h
    exact ⟨a, xs, e, fun z => n (s a (by rw [ha]; simp) z), ha, DqL.imp s ds xs hl⟩
  | .dict kvs, _, h => by
    unfold Dq at h ⊢
    obtain ⟨a, xs, e, n, ha, hl⟩ := h
    exact ⟨a, xs, e, fun z => n (s a (by rw [ha]; simp) z), ha, DqK.imp s kvs xs hl⟩
theorem DqL.imp {D D' : Ban} {H : Hp} (s : ∀ a, H a ≠ none → D' a → D a) : ∀ (ds : List PyData) (xs : List V), DqL D H ds xs → DqL D' H ds xs
  | [], _, h => h
  | d :: ds, _, h => by
    unfold DqL at h ⊢
    obtain ⟨x, r, e, h1, h2⟩ := h
    exact ⟨x, r, e, Dq.imp s d x h1, DqL.imp s ds r h2⟩
theorem DqK.imp {D D' : Ban} {H : Hp} (s : ∀ a, H a ≠ none → D' a → D a) : ∀ (ds : List (PyData × PyData)) (xs : List (Key × V)), DqK D H ds xs → DqK D' H ds xs
  | [], _, h => h
  | (k, d) :: ds, _, h => by
    unfold DqK at h ⊢
    obtain ⟨j, x, r, e, ek, h1, h2⟩ := h
    exact ⟨j, x, r, e, ek, Dq.imp s d x h1, DqK.imp s ds r h2⟩
end
def Bp (D : Ban) (p : Addr) : Ban := fun a => D a ∨ a = p
theorem Dq.ban {D : Ban} {H : Hp} {d : PyData} {v : V} {p : Addr} (h : Dq D H d v) (hp : H p = none) : Dq (Bp D p) H d v := Dq.imp (fun a n z => z.elim id fun e => absurd (e ▸ hp) n) d v h
theorem DqL.ban {D : Ban} {H : Hp} {d : List PyData} {v : List V} {p : Addr} (h : DqL D H d v) (hp : H p = none) : DqL (Bp D p) H d v := DqL.imp (fun a n z => z.elim id fun e => absurd (e ▸ hp) n) d v h
theorem Dq.unban {D : Ban} {H : Hp} {d : PyData} {v : V} {p : Addr} (h : Dq (Bp D p) H d v) : Dq D H d v := Dq.imp (fun a _ z => .inl z) d v h
theorem DqL.unban {D : Ban} {H : Hp} {d : List PyData} {v : List V} {p : Addr} (h : DqL (Bp D p) H d v) : DqL D H d v := DqL.imp (fun a _ z => .inl z) d v h
/-! ### the world of a deck, and what leaves it well -/
structure Wd (D : Ban) (d l : Addr) (H : Hp) : Prop where
  sub : ∀ a, Dd d l a → D a
  dk : Dk d l H
  al : ∀ a, D a → H a ≠ none
structure Nx (D : Ban) (d l : Addr) (H H' : Hp) : Prop where
  gr : Gr (Dd d l) H H'
  wd : Wd D d l H'
variable {D : Ban} {d l : Addr} {H H1 H2 H3 : Hp}
theorem Dk.al {a : Addr} (h : Dk d l H) (ha : Dd d l a) : H a ≠ none := by
  obtain ⟨m, n, ns, q⟩ := h
  rcases ha with rfl | rfl
  · rw [q.dk]; simp
  · rw [q.ls]; simp
theorem Wd.step {D0 : Ban} (w : Wd D d l H) (g : Gr D0 H H1) (k : Dk d l H1) (hs : ∀ a, D0 a → D a → Dd d l a ∨ H1 a ≠ none) : Wd D d l H1 := ⟨w.sub, k, fun a ha => by
  by_cases hd : Dd d l a
  · exact k.al hd
  · by_cases h0 : D0 a
    · exact (hs a h0 ha).resolve_left hd
    · cases ho : H a with
      | none => exact absurd ho (w.al a ha)
      | some o => rw [g a o h0 ho]; simp⟩
theorem Wd.next (w : Wd D d l H) (g : Gr (Dd d l) H H1) (k : Dk d l H1) : Nx D d l H H1 := ⟨g, w.step g k fun a h _ => .inl h⟩
theorem Wd.ex (w : Wd D d l H) (e : Ex H H1) : Nx D d l H H1 := w.next (gr_ex e) (w.dk.ex e)
theorem Wd.nx0 (w : Wd D d l H) : Nx D d l H H := w.ex (Ex.refl H)
theorem Nx.trans (a : Nx D d l H H1) (b : Nx D d l H1 H2) : Nx D d l H H2 := ⟨a.gr.trans b.gr, b.wd⟩
theorem Nx.ex (a : Nx D d l H H1) (e : Ex H1 H2) : Nx D d l H H2 := a.trans (a.wd.ex e)
theorem Nx.dq {r : PyData} {v : V} (n : Nx D d l H H1) (h : Dq D H r v) : Dq D H1 r v := Dq.gr (n.gr.sub n.wd.sub) r v h
theorem Nx.dqL {r : List PyData} {v : List V} (n : Nx D d l H H1) (h : DqL D H r v) : DqL D H1 r v := DqL.gr (n.gr.sub n.wd.sub) r v h
theorem Nx.al {a : Addr} (n : Nx D d l H H1) (h : H a ≠ none) : H1 a ≠ none := by
  by_cases hd : Dd d l a
  · exact n.wd.dk.al hd
  · cases ho : H a with
    | none => exact absurd ho h
    | some o => rw [n.gr a o hd ho]; simp
theorem Nx.fr {p : Addr} (n : Nx D d l H H1) (h : H1 p = none) : H p = none := by
  cases ho : H p with
  | none => rfl
  | some o => exact absurd h (n.al (by rw [ho]; simp))
theorem Nx.keep {p : Addr} {o : HO} (n : Nx D d l H H1) (h : H p = some o) (hd : ¬ Dd d l p) : H1 p = some o := n.gr p o hd h
theorem Wd.nf {p : Addr} (w : Wd D d l H) (h : H p = none) : ¬ D p := fun z => w.al p z h
theorem Wd.new {p : Addr} (w : Wd D d l H) (h : H p = none) (o : HO) : Nx D d l H (upd H p o) := w.ex (Ex.new h)
/-- a new local list at p -/
theorem Wd.ban {p : Addr} {o : HO} (w : Wd D d l H) (h : H p = none) : Wd (Bp D p) d l (upd H p o) := by
  have n := (w.new h o).wd
  refine ⟨fun a ha => .inl (n.sub a ha), n.dk, fun a ha => ?_⟩
  rcases ha with ha | rfl
  · exact n.al a ha
  · rw [upd_same]; simp
theorem Dk.put {p : Addr} {o : HO} (k : Dk d l H) (hd : ¬ Dd d l p) : Dk d l (upd H p o) := by
  obtain ⟨m, n, ns, q⟩ := k
  have n1 : d ≠ p := fun z => hd (.inl z.symm)
  have n2 : l ≠ p := fun z => hd (.inr z.symm)
  exact ⟨m, n, ns, q.ne, by rw [upd_ne n1]; exact q.dk, by rw [upd_ne n2]; exact q.ls, q.few⟩
theorem Wd.put {p : Addr} {o : HO} (w : Wd D d l H) (hd : ¬ Dd d l p) : Wd D d l (upd H p o) := ⟨w.sub, w.dk.put hd, fun a ha => by
  by_cases e : a = p
  · rw [e, upd_same]; simp
  · rw [upd_ne e]; exact w.al a ha⟩
theorem Dq.put {r : PyData} {v : V} {p : Addr} {o : HO} (h : Dq D H r v) (hp : D p) : Dq D (upd H p o) r v := Dq.gr (gr_upd (Gr.refl D H) hp) r v h
theorem DqL.put {r : List PyData} {v : List V} {p : Addr} {o : HO} (h : DqL D H r v) (hp : D p) : DqL D (upd H p o) r v := DqL.gr (gr_upd (Gr.refl D H) hp) r v h
/-- what a local list's growing leaves: seen from before it was there -/
theorem gr_back {p : Addr} {G : Ban} (g : Gr (Bp G p) H H1) (hp : H p = none) : Gr G H H1 := fun a o n h => g a o (fun z => z.elim n fun e => by rw [e, hp] at h; cases h) h
/-! ### evaluations that draw -/
def Mv (D : Ban) (d l : Addr) (te : TE) (σ : L2.St) (H : Hp) (R : PyData → Prop) : Prop := ∀ Q : VK, (∀ r v H', R r → Dq D H' r v → Nx D d l H H' → Q v H') → te σ H Q
def MvA (D : Ban) (d l : Addr) (ta : TA) (σ : L2.St) (H : Hp) (R : List PyData → Prop) : Prop := ∀ Q : List V → Hp → Prop, (∀ rs vs H', R rs → DqL D H' rs vs → Nx D d l H H' → Q vs H') → ta σ H Q
def MvT (D : Ban) (d l : Addr) (tt : TT) (σ : L2.St) (H : Hp) (R : Bool → Prop) : Prop := ∀ Q : Bool → Hp → Prop, (∀ b H', R b → Nx D d l H H' → Q b H') → tt σ H Q
section
variable {K : PySem.W.Frag} {σ : L2.St} {ta tb tc te tl tk tv : TE} {tA : TA} {t u : TT} {x y z v : V} {Dn : Ends} {tz tu tw : TS} {R Ra Rc : PyData → Prop} {r : PyData}
theorem Mv.imp (h : Mv D d l te σ H R) (k : ∀ r, R r → Ra r) : Mv D d l te σ H Ra := fun Q q => h Q fun r v H' a b c => q r v H' (k r a) b c
theorem MvA.imp {R Ra : List PyData → Prop} (h : MvA D d l tA σ H R) (k : ∀ r, R r → Ra r) : MvA D d l tA σ H Ra := fun Q q => h Q fun r v H' a b c => q r v H' (k r a) b c
theorem mv_ev (w : Wd D d l H) (h : Ev te σ H v) (hq : Dq D H r v) (hR : R r) : Mv D d l te σ H R := fun Q q => h H (Ex.refl H) _ fun H1 e => q r v H1 hR ((w.ex e).dq hq) (w.ex e)
theorem mv_int {i : Int} (w : Wd D d l H) (h : Ev te σ H (.int i)) (hR : R (.int i)) : Mv D d l te σ H R := mv_ev w h (by unfold Dq; rfl) hR
theorem mv_str {i : Str} (w : Wd D d l H) (h : Ev te σ H (.str i)) (hR : R (.str i)) : Mv D d l te σ H R := mv_ev w h (by unfold Dq; rfl) hR
theorem mv_bl {i : Bool} (w : Wd D d l H) (h : Ev te σ H (.bl i)) (hR : R (.bool i)) : Mv D d l te σ H R := mv_ev w h (by unfold Dq; rfl) hR
theorem mv_non (w : Wd D d l H) (h : Ev te σ H .non) (hR : R .none) : Mv D d l te σ H R := mv_ev w h (by unfold Dq; rfl) hR
theorem mv_var {i : Nat} (w : Wd D d l H) (h : σ[i]? = some (some v)) (hq : Dq D H r v) (hR : R r) : Mv D d l (tVar i) σ H R := mv_ev w (Evl.ev_var h) hq hR
theorem mva_nil {R : List PyData → Prop} (w : Wd D d l H) (h : R []) : MvA D d l tNil σ H R := fun Q q => q [] [] H h DqL.nil w.nx0
theorem mva_cons {R : List PyData → Prop} (h : Mv D d l ta σ H Ra) (k : ∀ r v H1, Ra r → Dq D H1 r v → Nx D d l H H1 → MvA D d l tA σ H1 fun rs => R (r :: rs)) : MvA D d l (tCons ta tA) σ H R := fun Q q =>
  h _ fun r v H1 a b c => k r v H1 a b c _ fun rs vs H2 a2 b2 c2 => q (r :: rs) (v :: vs) H2 a2 (DqL.cons (c2.dq b) b2) (c.trans c2)
theorem mva_one {R : List PyData → Prop} (h : Mv D d l ta σ H fun r => R [r]) : MvA D d l (tCons ta tNil) σ H R := mva_cons h fun r v H1 a b c => mva_nil c.wd a
theorem dq_tup {p : Addr} {rs : List PyData} {vs : List V} (n : ¬ D p) (h : H p = some (.tup vs)) (hl : DqL D H rs vs) : Dq D H (.tuple rs) (.ref p) := by unfold Dq; exact ⟨p, vs, rfl, n, h, hl⟩
theorem dq_lst {p : Addr} {rs : List PyData} {vs : List V} (n : ¬ D p) (h : H p = some (.lst vs)) (hl : DqL D H rs vs) : Dq D H (.list rs) (.ref p) := by unfold Dq; exact ⟨p, vs, rfl, n, h, hl⟩
theorem dq_newT {p : Addr} {rs : List PyData} {vs : List V} (w : Wd D d l H) (hp : H p = none) (hl : DqL D H rs vs) : Dq D (upd H p (.tup vs)) (.tuple rs) (.ref p) := dq_tup (w.nf hp) upd_same ((w.new hp _).dqL hl)
theorem dq_newL {p : Addr} {rs : List PyData} {vs : List V} (w : Wd D d l H) (hp : H p = none) (hl : DqL D H rs vs) : Dq D (upd H p (.lst vs)) (.list rs) (.ref p) := dq_lst (w.nf hp) upd_same ((w.new hp _).dqL hl)
theorem mv_tup (h : MvA D d l tA σ H fun rs => rs.length ≤ 100000 ∧ R (.tuple rs)) : Mv D d l (tTup tA) σ H R := fun Q q =>
  h _ fun rs vs H1 a b c => ⟨Evl.sz_of (by rw [b.length]; exact a.1), fun p hp => q _ _ _ a.2 (dq_newT c.wd hp b) (c.trans (c.wd.new hp _))⟩
theorem mv_lst (h : MvA D d l tA σ H fun rs => rs.length ≤ 100000 ∧ R (.list rs)) : Mv D d l (tLst tA) σ H R := fun Q q =>
  h _ fun rs vs H1 a b c => ⟨Evl.sz_of (by rw [b.length]; exact a.1), fun p hp => q _ _ _ a.2 (dq_newL c.wd hp b) (c.trans (c.wd.new hp _))⟩
theorem mv_op {rr : R2} (h1 : Mv D d l ta σ H Ra) (h2 : ∀ r v H1, Ra r → Dq D H1 r v → Nx D d l H H1 → Mv D d l tb σ H1 Rc)
    (hr : ∀ r1 v1 r2 v2 H1, Ra r1 → Rc r2 → Dq D H1 r1 v1 → Dq D H1 r2 v2 → Nx D d l H H1 → ∀ Q : VK, (∀ r v H2, R r → Dq D H2 r v → Nx D d l H1 H2 → Q v H2) → rr v1 v2 H1 Q) : Mv D d l (tOp rr ta tb) σ H R := fun Q q =>
  h1 _ fun r1 v1 H1 a1 b1 c1 => h2 r1 v1 H1 a1 b1 c1 _ fun r2 v2 H2 a2 b2 c2 => hr r1 v1 r2 v2 H2 a1 a2 (c2.dq b1) b2 (c1.trans c2) Q fun r v H3 a b c => q r v H3 a b ((c1.trans c2).trans c)
theorem mv_if {b : Bool} (hw : Wd D d l H) (h : EvT t σ H b) (h1 : b = true → ∀ H1, Nx D d l H H1 → Ex H H1 → Mv D d l ta σ H1 R) (h2 : b = false → ∀ H1, Nx D d l H H1 → Ex H H1 → Mv D d l tb σ H1 R) : Mv D d l (tIf t ta tb) σ H R := fun Q q => h H (Ex.refl H) _ fun H1 e => by
  have n := hw.ex e
  cases b with
  | true =>
    show ta σ H1 Q
    exact h1 rfl H1 n e Q fun r v H2 a b c => q r v H2 a b (n.trans c)
  | false =>
    show tb σ H1 Q
    exact h2 rfl H1 n e Q fun r v H2 a b c => q r v H2 a b (n.trans c)
theorem mv_ifM {Rb : Bool → Prop} (h : MvT D d l t σ H Rb) (h1 : Rb true → ∀ H1, Nx D d l H H1 → Mv D d l ta σ H1 R) (h2 : Rb false → ∀ H1, Nx D d l H H1 → Mv D d l tb σ H1 R) : Mv D d l (tIf t ta tb) σ H R := fun Q q => h _ fun b H1 hb n => by
  cases b with
  | true =>
    show ta σ H1 Q
    exact h1 hb H1 n Q fun r v H2 a b c => q r v H2 a b (n.trans c)
  | false =>
    show tb σ H1 Q
    exact h2 hb H1 n Q fun r v H2 a b c => q r v H2 a b (n.trans c)
theorem mt_ev {b : Bool} {Rb : Bool → Prop} (w : Wd D d l H) (h : EvT t σ H b) (hR : Rb b) : MvT D d l t σ H Rb := fun Q q => h H (Ex.refl H) _ fun H1 e => q b H1 hR (w.ex e)
theorem mt_or {Rb R1b : Bool → Prop} (h : MvT D d l t σ H R1b) (ht : R1b true → Rb true) (hf : ∀ H1, R1b false → Nx D d l H H1 → MvT D d l u σ H1 Rb) : MvT D d l (tOr t u) σ H Rb := fun Q q => h _ fun b H1 hb n => by
  cases b with
  | true =>
    show Q true H1
    exact q _ _ (ht hb) n
  | false =>
    show u σ H1 Q
    exact hf H1 hb n Q fun b H2 a c => q b H2 a (n.trans c)
theorem mt_and {Rb R1b : Bool → Prop} (h : MvT D d l t σ H R1b) (hf : R1b false → Rb false) (ht : ∀ H1, R1b true → Nx D d l H H1 → MvT D d l u σ H1 Rb) : MvT D d l (tAnd t u) σ H Rb := fun Q q => h _ fun b H1 hb n => by
  cases b with
  | true =>
    show u σ H1 Q
    exact ht H1 hb n Q fun b H2 a c => q b H2 a (n.trans c)
  | false =>
    show Q false H1
    exact q _ _ (hf hb) n
theorem mt_op {rr : R2} {Rb : Bool → Prop} (h1 : Mv D d l ta σ H Ra) (h2 : ∀ r v H1, Ra r → Dq D H1 r v → Nx D d l H H1 → Mv D d l tb σ H1 Rc)
    (hr : ∀ r1 v1 r2 v2 H1, Ra r1 → Rc r2 → Dq D H1 r1 v1 → Dq D H1 r2 v2 → Nx D d l H H1 → ∀ Q : VK, (∀ b H2, Rb b → Nx D d l H1 H2 → Q (.bl b) H2) → rr v1 v2 H1 Q) : MvT D d l (tTest (tOp rr ta tb)) σ H Rb := fun Q q =>
  h1 _ fun r1 v1 H1 a1 b1 c1 => h2 r1 v1 H1 a1 b1 c1 _ fun r2 v2 H2 a2 b2 c2 => hr r1 v1 r2 v2 H2 a1 a2 (c2.dq b1) b2 (c1.trans c2) _ fun b H3 a c => ⟨b, rfl, q b H3 a ((c1.trans c2).trans c)⟩
/-- an integer drawn against a constant -/
theorem mt_cmp {c : Int} {g : Int → Int → Bool} {Rb : Bool → Prop} (h1 : Mv D d l ta σ H fun r => ∃ i, r = .int i ∧ Rb (g i c)) : MvT D d l (tTest (tOp (rI0 fun i j => .bl (g i j)) ta (tC (.int c)))) σ H Rb := fun Q q =>
  h1 _ fun r1 v1 H1 ⟨i, e, hR⟩ b1 c1 => by
    subst e
    unfold Dq at b1
    subst b1
    exact ⟨i, c, rfl, rfl, _, rfl, q _ H1 hR c1⟩
theorem mt_eq {c : Int} {Rb : Bool → Prop} (h1 : Mv D d l ta σ H fun r => ∃ i, r = .int i ∧ Rb (decide (i = c))) : MvT D d l (tTest (tOp rEq ta (tC (.int c)))) σ H Rb := fun Q q =>
  h1 _ fun r1 v1 H1 ⟨i, e, hR⟩ b1 c1 => by
    subst e
    unfold Dq at b1
    subst b1
    refine ⟨rfl, decide (i = c), ?_, q _ H1 hR c1⟩
    congr 1
    exact decide_eq_decide.mpr ⟨fun e => V.int.inj e, fun e => by rw [e]⟩
/-! statements -/
theorem q_mv {i : Nat} (h : Mv D d l te σ H R) (k : ∀ r v H', R r → Dq D H' r v → Nx D d l H H' → tz Dn (σ.set i (some v)) H') : tSeq (tAsg te (gName i)) tz Dn σ H := h _ k
theorem s_mv {i : Nat} (h : Mv D d l te σ H R) (k : ∀ r v H', R r → Dq D H' r v → Nx D d l H H' → Dn.nx (σ.set i (some v)) H') : tAsg te (gName i) Dn σ H := h _ k
theorem s_retM (h : Mv D d l te σ H R) (k : ∀ r v H', R r → Dq D H' r v → Nx D d l H H' → Dn.rt v H') : tRet te Dn σ H := h _ k
theorem q_whenM {Rb : Bool → Prop} (h : MvT D d l t σ H Rb) (h1 : Rb true → ∀ H1, Nx D d l H H1 → tu { Dn with nx := tz Dn } σ H1) (h2 : Rb false → ∀ H1, Nx D d l H H1 → tz Dn σ H1) : tSeq (tIfS t tu tNext) tz Dn σ H := h _ fun b H1 hb n => by
  cases b with
  | true =>
    show tu { Dn with nx := tz Dn } σ H1
    exact h1 hb H1 n
  | false =>
    show tz Dn σ H1
    exact h2 hb H1 n
theorem s_ifM {Rb : Bool → Prop} (h : MvT D d l t σ H Rb) (h1 : Rb true → ∀ H1, Nx D d l H H1 → tu Dn σ H1) (h2 : Rb false → ∀ H1, Nx D d l H H1 → tw Dn σ H1) : tIfS t tu tw Dn σ H := h _ fun b H1 hb n => by
  cases b with
  | true =>
    show tu Dn σ H1
    exact h1 hb H1 n
  | false =>
    show tw Dn σ H1
    exact h2 hb H1 n
/-! promises of the builders: spM with the deck ahead, spN without -/
end
def spM (Pre : List PyData → Prop) (Post : List PyData → PyData → Prop) : Sp := fun vs H Q _ => ∃ (D : Ban) (d l : Addr) (vs' : List V) (rs : List PyData), vs = .ref d :: vs' ∧ Wd D d l H ∧ DqL D H rs vs' ∧ Pre rs ∧ ∀ r v H', Post rs r → Dq D H' r v → Nx D d l H H' → Q v H'
def spN (Pre : List PyData → Prop) (Post : List PyData → PyData → Prop) : Sp := fun vs H Q _ => ∃ (D : Ban) (d l : Addr) (rs : List PyData), Wd D d l H ∧ DqL D H rs vs ∧ Pre rs ∧ ∀ r v H', Post rs r → Dq D H' r v → Nx D d l H H' → Q v H'
section
variable {K : PySem.W.Frag} {σ : L2.St} {tA : TA} {R : PyData → Prop} {Rs : List PyData → Prop} {Pre : List PyData → Prop} {Post : List PyData → PyData → Prop} {E : XK}
theorem mv_callM {kd : Nat} (hd : σ[kd]? = some (some (.ref d))) (ha : MvA D d l tA σ H Rs) (hp : ∀ rs, Rs rs → Pre rs ∧ ∀ r, Post rs r → R r) : Mv D d l (tCall (spM Pre Post) [] E (tCons (tVar kd) tA)) σ H R := fun Q q =>
  ⟨_, hd, ha _ fun rs vs H1 a b c => ⟨D, d, l, vs, rs, by rw [List.append_nil], c.wd, b, (hp rs a).1, fun r v H2 a2 b2 c2 => q r v H2 ((hp rs a).2 r a2) b2 (c.trans c2)⟩⟩
theorem mv_callN (ha : MvA D d l tA σ H Rs) (hp : ∀ rs, Rs rs → Pre rs ∧ ∀ r, Post rs r → R r) : Mv D d l (tCall (spN Pre Post) [] E tA) σ H R := fun Q q =>
  ha _ fun rs vs H1 a b c => ⟨D, d, l, rs, c.wd, by rw [List.append_nil]; exact b, (hp rs a).1, fun r v H2 a2 b2 c2 => q r v H2 ((hp rs a).2 r a2) b2 (c.trans c2)⟩
/-- draw(deck, n) -/
theorem mv_draw {many : Int} {tb : TE} {kd : Nat} (hd : σ[kd]? = some (some (.ref d))) (ha : Mv D d l tb σ H fun r => r = .int many) (h1 : 1 ≤ many) (h2 : many ≤ 100000) (hR : ∀ i : Int, 0 ≤ i → i < many → R (.int i)) : Mv D d l (tCall spDraw [] E (tCons (tVar kd) (tCons tb tNil))) σ H R := fun Q q =>
  ⟨_, hd, ha _ fun r v H1 a b c => by
    subst a
    unfold Dq at b
    subst b
    exact ⟨d, l, many, rfl, c.wd.dk, h1, h2, fun i H2 i1 i2 g k => q _ _ _ (hR i i1 i2) (by unfold Dq; rfl) (c.trans (c.wd.next g k))⟩⟩
theorem mv_drawC {many : Int} (w : Wd D d l H) {kd : Nat} (hd : σ[kd]? = some (some (.ref d))) (h1 : 1 ≤ many := by decide) (h2 : many ≤ 100000 := by decide) : Mv D d l (tCall spDraw [] E (tCons (tVar kd) (tCons (tC (.int many)) tNil))) σ H fun r => ∃ i : Int, r = .int i ∧ 0 ≤ i ∧ i < many :=
  mv_draw hd (mv_int w Evl.ev_c rfl) h1 h2 fun i a b => ⟨i, rfl, a, b⟩
end
end Al
namespace Al
open PySem PySem.Spec PyProof.Rows L2
open Evl (Ex Ev EvT EvA EvL EvU SpV RV RC RCL)
def flt : V → Bool
  | .non => true
  | .bl _ => true
  | .int _ => true
  | .str _ => true
  | _ => false
def toD : V → PyData
  | .bl b => .bool b
  | .int i => .int i
  | .str z => .str z
  | _ => .none
theorem dq_flt {D : Ban} {H : Hp} : ∀ {v : V}, flt v = true → Dq D H (toD v) v
  | .non, _ => by unfold toD Dq; rfl
  | .bl b, _ => by unfold toD Dq; rfl
  | .int i, _ => by unfold toD Dq; rfl
  | .str z, _ => by unfold toD Dq; rfl
theorem dqL_flt {D : Ban} {H : Hp} : ∀ {vs : List V}, vs.all flt = true → DqL D H (vs.map toD) vs
  | [], _ => DqL.nil
  | v :: vs, h => by
    rw [List.all_cons, Bool.and_eq_true] at h
    exact DqL.cons (dq_flt h.1) (dqL_flt h.2)
variable {D : Ban} {d l : Addr} {H : Hp}
section
variable {K : PySem.W.Frag} {σ : L2.St} {ta tb tc te tl : TE} {tA : TA} {t : TT} {x y z v : V} {R Ra Rc : PyData → Prop} {r : PyData} {E : XK}
theorem mva_ev {R : List PyData → Prop} {rs : List PyData} {vs : List V} (w : Wd D d l H) (h : EvA tA σ H vs) (hq : DqL D H rs vs) (hR : R rs) : MvA D d l tA σ H R := fun Q q => h H (Ex.refl H) _ fun H1 e => q rs vs H1 hR ((w.ex e).dqL hq) (w.ex e)
theorem mva_flt {R : List PyData → Prop} {vs : List V} (w : Wd D d l H) (h : EvA tA σ H vs) (hf : vs.all flt = true) (hR : R (vs.map toD)) : MvA D d l tA σ H R := mva_ev w h (dqL_flt hf) hR
def PrePick (rs : List PyData) : Prop := ∃ ds, (rs = [.list ds] ∨ rs = [.tuple ds]) ∧ ds ≠ [] ∧ ds.length ≤ 100000
def PostPick (rs : List PyData) (r : PyData) : Prop := ∃ ds, (rs = [.list ds] ∨ rs = [.tuple ds]) ∧ r ∈ ds
/-- pick(deck, [..]) -/
theorem mv_pick {Rs : List PyData → Prop} {kd : Nat} (hd : σ[kd]? = some (some (.ref d))) (ha : MvA D d l tA σ H Rs) (hr : ∀ rs, Rs rs → rs ≠ [] ∧ rs.length ≤ 100000 ∧ ∀ r ∈ rs, R r) : Mv D d l (tCall (spM PrePick PostPick) [] E (tCons (tVar kd) (tCons (tLst tA) tNil))) σ H R :=
  mv_callM (Rs := fun as => ∃ rs, as = [.list rs] ∧ Rs rs) hd (mva_one (mv_lst (ha.imp fun rs a => ⟨(hr rs a).2.1, rs, rfl, a⟩))) fun as ⟨rs, e, a⟩ => ⟨⟨rs, .inl e, (hr rs a).1, (hr rs a).2.1⟩, fun r ⟨ds, e2, hm⟩ => by
    have e3 : rs = ds := by rw [e] at e2; simpa using e2
    rw [← e3] at hm
    exact (hr rs a).2.2 r hm⟩
theorem mv_pickC {vs : List V} (w : Wd D d l H) {kd : Nat} (hd : σ[kd]? = some (some (.ref d))) (h : EvA tA σ H vs) (hf : vs.all flt = true) (hn : vs.length ≤ 100000 := by decide) (h0 : vs ≠ [] := by simp) (hr : ∀ v ∈ vs, R (toD v)) : Mv D d l (tCall (spM PrePick PostPick) [] E (tCons (tVar kd) (tCons (tLst tA) tNil))) σ H R :=
  mv_pick (Rs := fun rs => rs = vs.map toD) hd (mva_flt w h hf rfl) fun rs e => by
    subst e
    refine ⟨by simpa using h0, by rw [List.length_map]; exact hn, fun r hm => ?_⟩
    obtain ⟨v, hv, rfl⟩ := List.mem_map.mp hm
    exact hr v hv
/-- pick(deck, x) of what stands there -/
theorem mv_pickV {ds : List PyData} {kd : Nat} (hd : σ[kd]? = some (some (.ref d))) (ha : Mv D d l ta σ H fun r => r = .list ds ∨ r = .tuple ds) (h0 : ds ≠ []) (hn : ds.length ≤ 100000) (hr : ∀ r ∈ ds, R r) : Mv D d l (tCall (spM PrePick PostPick) [] E (tCons (tVar kd) (tCons ta tNil))) σ H R :=
  mv_callM (Rs := fun as => as = [.list ds] ∨ as = [.tuple ds]) hd (mva_one (ha.imp fun r a => a.elim (fun e => .inl (by rw [e])) (fun e => .inr (by rw [e])))) fun as a => ⟨⟨ds, a, h0, hn⟩, fun r ⟨es, e2, hm⟩ => by
    have e3 : ds = es := by
      rcases a with e | e <;> rw [e] at e2 <;> simpa using e2
    rw [← e3] at hm
    exact hr r hm⟩
/-- the place drawn in what stands there -/
theorem ev_lenA {p : Addr} {xs : List V} (ha : Ev ta σ H (.ref p)) (h : SqL K H p xs ∨ SqT K H p xs) : Ev (tCB (fun xs H Q => ∃ p ys, xs = [.ref p] ∧ (SqL K H p ys ∨ SqT K H p ys) ∧ Q (.int ys.length) H) (tCons ta tNil)) σ H (.int (xs.length : Int)) := fun H1 e Q q =>
  ha H1 e _ fun H2 e2 => ⟨p, xs, rfl, h.imp (Evl.ex_l (e.trans e2)) (Evl.ex_t (e.trans e2)), q H2 e2⟩
theorem Dq.seq {r : PyData} {ds : List PyData} (h : Dq D H r v) (e : r = .list ds ∨ r = .tuple ds) : ∃ p xs, v = .ref p ∧ (H p = some (.lst xs) ∨ H p = some (.tup xs)) ∧ DqL D H ds xs := by
  rcases e with rfl | rfl
  · unfold Dq at h
    obtain ⟨a, xs, rfl, _, ha, hl⟩ := h
    exact ⟨a, xs, rfl, .inl ha, hl⟩
  · unfold Dq at h
    obtain ⟨a, xs, rfl, _, ha, hl⟩ := h
    exact ⟨a, xs, rfl, .inr ha, hl⟩
theorem sq_seq {p : Addr} {xs : List V} (h : H p = some (.lst xs) ∨ H p = some (.tup xs)) : SqL K H p xs ∨ SqT K H p xs := h.imp Evl.sq_of Evl.st_of
/-- len(x) of data in sight -/
theorem ev_lenD {ds : List PyData} (ha : Ev ta σ H v) (h : Dq D H r v) (e : r = .list ds ∨ r = .tuple ds) : Ev (tCB (fun xs H Q => ∃ p ys, xs = [.ref p] ∧ (SqL K H p ys ∨ SqT K H p ys) ∧ Q (.int ys.length) H) (tCons ta tNil)) σ H (.int (ds.length : Int)) := by
  obtain ⟨p, xs, rfl, hp, hl⟩ := h.seq e
  rw [← hl.length]
  exact ev_lenA ha (sq_seq hp)
/-- x[i] of data in sight, i within -/
theorem mv_ix {ds : List PyData} {n : Nat} (h1 : Mv D d l ta σ H fun r => r = .list ds ∨ r = .tuple ds) (hn : n = ds.length) (h2 : ∀ H1, Nx D d l H H1 → ∀ v, (∃ r, Dq D H1 r v ∧ (r = .list ds ∨ r = .tuple ds)) → Mv D d l tb σ H1 fun r => ∃ i : Int, r = .int i ∧ 0 ≤ i ∧ i < n) (hR : ∀ r ∈ ds, R r) : Mv D d l (tOp (rIx K) ta tb) σ H R :=
  mv_op h1 (fun r v H1 a b c => h2 H1 c v ⟨r, b, a⟩) fun r1 v1 r2 v2 H1 a1 ⟨i, e2, i0, i1⟩ b1 b2 c Q q => by
    subst e2
    unfold Dq at b2
    subst b2
    obtain ⟨p, xs, rfl, hp, hl⟩ := b1.seq a1
    have hi : i.toNat < ds.length := by omega
    obtain ⟨x, hx, hxq⟩ := hl.get (List.getElem?_eq_getElem hi)
    have ei : ((i.toNat : Nat) : Int) = i := Int.toNat_of_nonneg i0
    have fin : Q x H1 := q _ x H1 (hR _ (List.getElem_mem hi)) hxq c.wd.nx0
    rcases hp with hp | hp
    · exact .inl ⟨p, xs, i, x, rfl, rfl, Evl.sq_of hp, by rw [← ei]; exact atI_nat hx, fin⟩
    · exact .inr (.inl ⟨p, xs, i, x, rfl, rfl, Evl.st_of hp, by rw [← ei]; exact atI_nat hx, fin⟩)
theorem mv_ixT {ds : List PyData} {n : Nat} (h1 : Mv D d l ta σ H fun r => r = .tuple ds) (hn : n = ds.length) (h2 : ∀ H1, Nx D d l H H1 → Mv D d l tb σ H1 fun r => ∃ i : Int, r = .int i ∧ 0 ≤ i ∧ i < n) (hR : ∀ r ∈ ds, R r) : Mv D d l (tOp (rIxT K) ta tb) σ H R :=
  mv_op h1 (fun r v H1 a b c => h2 H1 c) fun r1 v1 r2 v2 H1 a1 ⟨i, e2, i0, i1⟩ b1 b2 c Q q => by
    subst e2 a1
    unfold Dq at b1 b2
    subst b2
    obtain ⟨p, xs, rfl, _, hp, hl⟩ := b1
    have hi : i.toNat < ds.length := by omega
    obtain ⟨x, hx, hxq⟩ := hl.get (List.getElem?_eq_getElem hi)
    have ei : ((i.toNat : Nat) : Int) = i := Int.toNat_of_nonneg i0
    exact ⟨p, xs, i, x, rfl, rfl, Evl.st_of hp, by rw [← ei]; exact atI_nat hx, q _ x H1 (hR _ (List.getElem_mem hi)) hxq c.wd.nx0⟩
/-- tuple(list) -/
theorem mv_tupOf (h : Mv D d l ta σ H fun r => ∃ ds, (r = .list ds ∨ r = .tuple ds) ∧ R (.tuple ds)) : Mv D d l (tThen ta (kTup K)) σ H R := fun Q q =>
  h _ fun r v H1 ⟨ds, e, hR⟩ b c => by
    rcases e with rfl | rfl
    · unfold Dq at b
      obtain ⟨a, xs, rfl, _, ha, hl⟩ := b
      exact .inl ⟨a, xs, rfl, Evl.sq_of ha, fun p hp => q _ _ _ hR (dq_newT c.wd hp hl) (c.trans (c.wd.new hp _))⟩
    · have b0 := b
      unfold Dq at b
      obtain ⟨a, xs, rfl, _, ha, hl⟩ := b
      exact .inr ⟨a, xs, rfl, Evl.st_of ha, q _ _ _ hR b0 c⟩
/-! comprehensions that draw -/
/-- what holds of the list being made, at p -/
def Lw (D : Ban) (d l : Addr) (R : PyData → Prop) (H : Hp) (p : Addr) (i : Nat) (H' : Hp) : Prop := Gr (Bp (Dd d l) p) H H' ∧ Wd (Bp D p) d l H' ∧ ∃ acc ds, H' p = some (.lst acc) ∧ DqL (Bp D p) H' ds acc ∧ ds.length = i ∧ ∀ r ∈ ds, R r
theorem lw0 {p : Addr} (w : Wd D d l H) (hp : H p = none) : Lw D d l R H p 0 (upd H p (.lst [])) := ⟨gr_upd (Gr.refl _ _) (.inr rfl), w.ban hp, [], [], upd_same, DqL.nil, rfl, fun r h => by cases h⟩
theorem bp_dd {p : Addr} (w : Wd D d l H) (hp : H p = none) : ¬ Dd d l p := fun z => (w.dk.al z) hp
theorem lw_next {p : Addr} {i : Nat} {H' H2 : Hp} {v : V} (w : Wd D d l H) (hp : H p = none) (h : Lw D d l R H p i H') (hR : R r) (hq : Dq (Bp D p) H2 r v) (n : Nx (Bp D p) d l H' H2) (hi : i < 50000) :
    ∃ acc, H2 p = some (.lst acc) ∧ acc.length < sizeLine ∧ Lw D d l R H p (i + 1) (upd H2 p (.lst (acc ++ [v]))) := by
  obtain ⟨g, w2, acc, ds, ha, hl, hi2, hr⟩ := h
  have nd := bp_dd w hp
  refine ⟨acc, n.keep ha nd, Evl.sz_lt (by rw [hl.length]; omega), gr_upd (g.trans (n.gr.sub fun a z => .inl z)) (.inr rfl), n.wd.put nd, _, ds ++ [r], upd_same, ((n.dqL hl).append (DqL.cons hq DqL.nil)).put (.inr rfl), by rw [List.length_append, List.length_singleton, hi2], fun x hx => ?_⟩
  rcases List.mem_append.mp hx with hx | hx
  · exact hr x hx
  · rw [List.mem_singleton.mp hx]
    exact hR
theorem lw_done {p : Addr} {i : Nat} {H' : Hp} (w : Wd D d l H) (hp : H p = none) (h : Lw D d l R H p i H') : Nx D d l H H' ∧ ∃ ds, Dq D H' (.list ds) (.ref p) ∧ ds.length = i ∧ ∀ r ∈ ds, R r := by
  obtain ⟨g, w2, acc, ds, ha, hl, hi2, hr⟩ := h
  exact ⟨w.next (gr_back g hp) w2.dk, ds, dq_lst (w.nf hp) ha hl.unban, hi2, hr⟩
/-- data from before the list was begun -/
theorem Lw.dq {p : Addr} {i : Nat} {H' : Hp} {v : V} (h : Lw D d l R H p i H') (w : Wd D d l H) (hp : H p = none) (hq : Dq D H r v) : Dq (Bp D p) H' r v := Dq.gr (h.1.sub fun a z => z.elim (fun z => .inl (w.sub a z)) .inr) r v (hq.ban hp)
theorem Lw.dqL {p : Addr} {i : Nat} {H' : Hp} {rs : List PyData} {v : List V} (h : Lw D d l R H p i H') (w : Wd D d l H) (hp : H p = none) (hq : DqL D H rs v) : DqL (Bp D p) H' rs v := DqL.gr (h.1.sub fun a z => z.elim (fun z => .inl (w.sub a z)) .inr) rs v (hq.ban hp)
theorem mv_lcR {j : Nat} {vs : List Nat} {n : Nat} (hn : n ≤ 40000) (ha : MvA D d l tA σ H fun rs => ∃ i : Int, rs = [.int i] ∧ 0 ≤ i ∧ i ≤ n) (hw : ∀ x, wipe ((wipe σ vs).set j (some x)) vs = wipe σ vs)
    (he : ∀ (i : Nat) p H0 H1, H0 p = none → Nx D d l H H0 → Lw D d l R H0 p i H1 → i < n → Mv (Bp D p) d l te ((wipe σ vs).set j (some (.int (i : Int)))) H1 R) :
    Mv D d l (tLc (iRng1 tA) (gName j) tYes te vs) σ H fun r => ∃ ds, r = .list ds ∧ ds.length ≤ n ∧ ∀ r ∈ ds, R r := fun Q q =>
  ha _ fun rs us H0 ⟨i, e, i0, i1⟩ b c => by
    subst e
    unfold DqL at b
    obtain ⟨x, s, rfl, bx, bs⟩ := b
    unfold DqL at bs
    unfold Dq at bx
    subst bs bx
    refine ⟨i, rfl, by omega, by omega, fun p hp => lc_range (lo := 0) (n := i.toNat) (Lw D d l R H0 p) (lw0 c.wd hp) (fun k H1 hk P => ?_) fun H1 P => ?_⟩
    · have e0 : (0 : Int) + (k : Int) = (k : Int) := Int.zero_add _
      show wipe ((wipe σ vs).set j (some (.int ((0 : Int) + (k : Int))))) vs = wipe σ vs ∧ te ((wipe σ vs).set j (some (.int ((0 : Int) + (k : Int))))) H1 fun y H4 => ∃ acc, H4 p = some (.lst acc) ∧ acc.length < sizeLine ∧ Lw D d l R H0 p (k + 1) (upd H4 p (.lst (acc ++ [y])))
      rw [e0]
      exact ⟨hw _, he k p H0 H1 hp c P (by omega) _ fun r v H2 a b n => lw_next c.wd hp P a b n (by omega)⟩
    · obtain ⟨n2, ds, hq, hl, hr⟩ := lw_done c.wd hp P
      exact q _ _ H1 ⟨ds, rfl, by omega, hr⟩ hq (c.trans n2)
end
section
variable {P : Program} {w : World} {K : PySem.W.Frag} {mg : Str → Option Value} {base : Heap}
theorem sc_pick : FnScope ["_law_deck_here", "_law_some"] ["_law_deck_here", "_law_some"] (defScope (top 38)) := ⟨rfl, rfl, rfl, by decide +kernel, rfl, by decide +kernel, by decide +kernel⟩
theorem ok_pick (F : Def K mg "_law_pick" (top 38) ["_law_deck_here", "_law_some"]) (B : Bl mg) (c__law_draw : Cal P w K mg base 1 "_law_draw" spDraw) : Cal P w K mg base 2 "_law_pick" (spM PrePick PostPick) := by
  refine Cal.of F sc_pick (fun vs H Q E ⟨D, d, l, vs', rs, e, hw, hq, ⟨ds, er, _⟩, _⟩ => by
    have := hq.length
    rcases er with er | er <;> rw [er] at this <;> rw [e, List.length_cons, this] <;> rfl) (fun f cdv A outer s H vs Q E hr h => ?_)
  refine ⟨_, (pss_one (ps_ret (pe_ix ix_seq (pv 1) (pcall c__law_draw hr (pa_cons (pv 0) (pa_cons (pe_callB call_len_seq (by rfl) B.len b_len (pa_cons (pv 1) pa_nil)) pa_nil))) (fun _ _ => rfl)))), ?_⟩
  obtain ⟨D, d, l, vs', rs, rfl, hw, hq, ⟨ds, er, h0, hn⟩, q⟩ := h
  obtain ⟨r, rfl, hr2⟩ : ∃ r, rs = [r] ∧ (r = .list ds ∨ r = .tuple ds) := by
    rcases er with er | er
    · exact ⟨_, er, .inl rfl⟩
    · exact ⟨_, er, .inr rfl⟩
  unfold DqL at hq
  obtain ⟨x, s', rfl, hx, hs⟩ := hq
  unfold DqL at hs
  subst hs
  refine s_retM (R := fun r => r ∈ ds) (mv_ix (ds := ds) (n := ds.length) (mv_var hw rfl hx hr2) rfl (fun H1 n1 v hv => ?_) fun r h => h) fun r v H' a b c => ?_
  · have hx1 := n1.dq hx
    have hpos : 0 < ds.length := List.length_pos_iff.mpr h0
    exact mv_draw rfl (mv_int n1.wd (ev_lenD (Evl.ev_var rfl) hx1 hr2) rfl) (by omega) (by omega) fun i a b => ⟨i, rfl, a, b⟩
  · exact q r v H' ⟨ds, by rcases hr2 with e | e <;> rw [e] <;> simp, a⟩ b c
end
end Al
set_option maxHeartbeats 4000000
namespace Al
open PySem PySem.Spec PyProof.Rows L2 HT
section
variable {prog : Program} {w : World} {A : Around} {E : Value → Shared → Prop} {s : Shared}
theorem rev_places (n : Nat) : Builtin.Slice.slicePlaces ((n : Int) - 1) (-1) (-1) = n := by
  unfold Builtin.Slice.slicePlaces
  have h1 : ¬ ((-1 : Int) > 0) := by omega
  simp only [h1, if_false]
  split
  · have : ((n : Int) - 1 - -1 - 1) / (- -1) = (n : Int) - 1 := by
      have e : (- -1 : Int) = 1 := by omega
      rw [e, Int.ediv_one]; omega
    rw [this]; omega
  · omega
theorem rev_pick (xs : Array Value) : ((List.range xs.size).filterMap fun (m : Nat) => xs[((xs.size : Int) - 1 + (m : Int) * -1).toNat]?).toArray = xs.toList.reverse.toArray := by
  congr 1
  have e : (List.range xs.size).filterMap (fun (m : Nat) => xs[((xs.size : Int) - 1 + (m : Int) * -1).toNat]?) = ((List.range xs.size).map fun k => xs.size - 1 - k).filterMap (xs[·]?) := by
    rw [List.filterMap_map]
    congr 1
    funext m
    have : ((xs.size : Int) - 1 + (m : Int) * -1).toNat = xs.size - 1 - m := by omega
    rw [this]
    rfl
  rw [e, PySem.W.krv_range, List.filterMap_reverse, PySem.W.krv_all]
theorem sliceApplied_rev {sl : Addr} {vs : Value} {n : Nat} {Q : Int × Int × Nat → Shared → Prop} (hs : s.heap.IsSliceOf sl .none .none vs) (ps : IsPart vs (some (-1)))
    (h : Q ((n : Int) - 1, -1, n) s) : wpAny (model prog w) A (Builtin.Slice.sliceApplied (.ref sl) (pure (n : Int))) Q E s := by
  obtain ⟨os, hos, hcs, hds⟩ := id hs
  unfold Builtin.Slice.sliceApplied Builtin.Slice.sliceFields
  refine wpAny_bind (wpAny_bind (wpAny_field hos hds (x := .none) rfl (wpAny_bind (wpAny_field hos hds (x := .none) rfl (wpAny_bind (wpAny_field hos hds (x := vs) rfl (wpAny_pure ?_)))))))
  refine wpAny_bind (slicePart_ ps ?_)
  show wpAny _ _ (if ((-1 : Int) == 0) = true then _ else _) _ _ s
  rw [if_neg (by decide)]
  refine wpAny_bind (slicePart_none (wpAny_bind (slicePart_none (wpAny_bind (wpAny_pure ?_)))))
  show wpAny _ _ (pure ((n : Int) - 1, (-1 : Int), Builtin.Slice.slicePlaces ((n : Int) - 1) (-1) (-1))) _ _ s
  rw [rev_places]
  exact wpAny_pure h
theorem getItem_tuple_rev {t sl : Addr} {items : Array Value} {vs : Value} {Q : Value → Shared → Prop} (ht : IsTup s.heap t items) (hs : s.heap.IsSliceOf sl .none .none vs) (ps : IsPart vs (some (-1)))
    (h : Q (.ref s.heap.objs.size) { s with heap := s.heap.push { cls := .type "tuple", data := .seq items.toList.reverse.toArray } })
    (hsz : items.size ≤ sizeLine) : wpAny (model prog w) A (getItem (.ref t) (.ref sl)) Q E s := by
  have htake : sizeOk (.seq items.toList.reverse.toArray) := by
    show items.toList.reverse.toArray.size ≤ sizeLine
    rw [List.size_toArray, List.length_reverse, Array.length_toList]
    omega
  obtain ⟨os, hos, hcs, hds⟩ := id hs
  have hTs : s.TypeIs (.ref sl) "slice" := ⟨os, hos, hcs⟩
  unfold getItem
  try with_reducible refine wpAny_holding ?_
  first | refine wpAny_bind (wpAny_pure ?_) | skip
  refine wpAny_bind (wpAny_sequenceKey ht.typeIs (by decide) ?_)
  refine wpAny_bind (wpAny_callSpecial?_slot (name := Str.ofString "__getitem__") ht.typeIs PyProof.Rows.slot_tuple_getitem
    (wpAny_call_entry PyProof.Rows.slot_tuple_getitem ht.typeIs entry_tuple_getitem ?_ (args_tuple_getitem _ _)))
  show wpAny _ _ (Builtin.Tuple.tupleItemsOf (.ref t) >>= _) _ _ s
  refine wpAny_bind (tupleItemsOf_ ht ?_)
  refine wpAny_bind (wpAny_typeOf hTs ?_)
  rw [if_pos (by decide)]
  refine wpAny_bind (sliceApplied_rev hs ps ?_)
  have hno : ¬ ((((items.size : Int) - 1) == 0 && (-1 : Int) == 1 && items.size == items.size) = true) := by
    intro q
    rw [Bool.and_eq_true, Bool.and_eq_true] at q
    exact absurd q.1.2 (by decide)
  show wpAny _ _ (if (((items.size : Int) - 1) == 0 && (-1 : Int) == 1 && items.size == items.size) = true then _ else _) _ _ s
  rw [if_neg hno, rev_pick]
  first
    | exact wpAny_bind (m := Builtin.Tuple.tupleExact _) (wpAny_newObj_type (wpAny_pure ⟨_, rfl, wpAny_pure h⟩) htake)
    | exact wpAny_bind (m := Builtin.Tuple.tupleExact _) (wpAny_newObj_type (wpAny_bind (wpAny_pure (wpAny_pure ⟨_, rfl, wpAny_pure h⟩))) htake)
    | exact wpAny_bind (wpAny_bind (m := Builtin.Tuple.tupleExact _) (wpAny_newObj_type (wpAny_pure (wpAny_pure ⟨_, rfl, wpAny_pure h⟩)) htake))
    | exact wpAny_bind (wpAny_bind (m := Builtin.Tuple.tupleExact _) (wpAny_newObj_type (wpAny_pure ⟨_, rfl, wpAny_pure h⟩) htake))
end
section
variable {X : Cx}
def tRevT (K : PySem.W.Frag) (te : TE) : TE := fun σ H Q => te σ H fun x H1 => ∃ a xs, x = .ref a ∧ SqT K H1 a xs ∧ ∀ p, H1 p = none → Q (.ref p) (upd H1 p (.tup xs.reverse))
theorem pe_revT {e : Expr} {te : TE} {k : Nat} {p1 p2 p3 pos : Pos} (he : PE X e te) : PE X (.Subscript e (.Slice none none (some (.UnaryOp .USub (.Constant (.int 1) k p1) p2)) p3) pos) (tRevT X.K te) := by
  refine ⟨fun pins s σ H Q I h => ?_⟩
  refine Subscript_ (thn (he.run pins s σ H _ I h) fun v s1 ⟨x, H1, I1, r1, q1⟩ => ?_)
  obtain ⟨a, xs, ex, hx, q⟩ := q1
  subst ex
  cases r1
  have hst : PO X (some (.UnaryOp .USub (.Constant (.int 1) k p1) p2)) (tPart (tUn (rU fun i => .int (-i)) (tC (.int 1)))) := po_some (pe_un un_neg pe_int)
  refine wpAny_Slice (wpAny_pure ?_)
  refine wpAny_pure ?_
  refine thn (hst.run pins s1 σ H1 (fun o H4 => o = some (-1) ∧ H4 = H1) I1 ⟨1, rfl, -1, rfl, rfl, rfl⟩) fun vs s4 ⟨o, H4, I4, ps, eo, e4⟩ => ?_
  subst eo e4
  have I5 : Inv X pins σ H4 { s4 with heap := s4.heap.push { cls := .type "slice", data := .fields #[.none, .none, vs] } } := I4.kept (t' := s4.toks) fun b ob q => Heap.get?_push_of_some _ q
  obtain ⟨its, r, ht, hz⟩ := I5.tuple hx
  have hlen := r.length
  show wpAny (model X.prog X.w) X.A (subscriptTail e (.Slice none none (some (.UnaryOp .USub (.Constant (.int 1) k p1) p2)) p3) (.ref a) (.ref s4.heap.objs.size)) (EP X pins σ Q) X.xe { s4 with heap := s4.heap.push { cls := .type "slice", data := .fields #[.none, .none, vs] } }
  refine tail_any (ops := [.ref a, .ref s4.heap.objs.size]) ht.typeIs (PyProof.Rows.slot_tuple_getitem.lookup) ?_ (by with_unfolding_all rfl)
  refine getItem_tuple_rev ht (Heap.IsSliceOf.new _ .none .none vs) ps ?_ (by rw [List.size_toArray]; omega)
  refine ⟨.ref _, _, I5.laid (t' := s4.toks) (o := .tup xs.reverse) (fun b ob q => Heap.get?_push_of_some _ q) (Nat.le_refl _) ?_, rfl, q _ (I5.hok.fresh (Nat.le_refl _))⟩
  exact ⟨by rw [List.length_reverse]; exact hz, _, r.reverse, IsTup.new _ _⟩
/-! ### tuple * int, an empty one too -/
theorem tuple_mulW0 (l : Addr) (n : Nat) (dd : Option Addr) (sl : Array (Option Value)) (x : Int) (u : Tok) (c0 : (decide (x < -(2 ^ 63)) || decide (x ≥ 2 ^ 63)) = false) :
    Meets (Builtin.«tuple.__mul__» ⟨[.ref l, .int x u], []⟩) (fun _ R s => s.heap.get? l = some { cls := .type "tuple", dict := dd, data := .seq #[] n, slots := sl } ∧
      R (.ok (.ret (Value.ref l))) s) :=
  .of_wp fun prog w A R s h => by
    obtain ⟨hp, g, d, tk, os⟩ := s
    obtain ⟨hl, h⟩ := h
    have f1 := AutoSeq1.idx_int
    wp_walk using wpAny_loadPart' hl
    repeat (first
      | (refine wpAny_ite_false (decide_eq_false (by rw [c0]; exact Bool.false_ne_true)) ?_; wp_walk using wpAny_loadPart' hl)
      | (refine wpAny_ite_true (decide_eq_true (by rfl)) ?_; wp_walk using wpAny_loadPart' hl))
    all_goals exact ⟨_, rfl, h⟩
def rRepA (K : PySem.W.Frag) : R2 := fun x y H Q => ∃ l k xs, x = .ref l ∧ y = .int k ∧ SqT K H l xs ∧ 2 ≤ k ∧ k ≤ 1000 ∧ xs.length ≤ 1000 ∧ (xs = [] → Q (.ref l) H) ∧ ∀ p, H p = none → Q (.ref p) (upd H p (.tup (List.replicate k.toNat xs).flatten))
theorem op_repA : OpR X (binaryOp .Mult) (rRepA X.K) := by
  intro pins s σ H x y v u Q I rx ry h
  obtain ⟨l, k, xs, rfl, rfl, hT, h1, h2, hz, q0, q⟩ := h
  by_cases hne : xs = []
  · subst hne
    cases rx
    obtain ⟨t, rfl⟩ := ry
    obtain ⟨its, r, ⟨⟨cls, dd, data, sl⟩, ho, hc, n, hd⟩, hs⟩ := I.tuple hT
    simp only at hc hd
    subst hc hd
    cases r
    have c0 : (decide (k < -(2 ^ 63)) || decide (k ≥ 2 ^ 63)) = false := by
      rw [decide_eq_false (by omega), decide_eq_false (by omega)] <;> rfl
    exact wpAny_binaryOp_repeat_ref (T := "tuple") (U := "int") (by decide) ⟨_, ho, rfl⟩ (fun s' => typeIs_int s' k t) noFill_tuple_mul F.fills_int_mul F.slot_int_rmul repeat_tuple F.slot_int_index.lookup
      (call_meets F.slot_int_rmul (typeIs_int s k t) F.entry_int_rmul (F.args_int_rmul_2 _ _) (int_rmul_tuple k t l _ n dd sl)
        ⟨ho, rfl, ⟨_, ho, rfl⟩, call_meets F.slot_tuple_mul ⟨_, ho, rfl⟩ F.entry_tuple_mul (F.args_tuple_mul_2 _ _) (tuple_mulW0 l n dd sl k t c0) ⟨ho, ⟨.ref l, H, I, rfl, q0 rfl⟩⟩⟩)
  · exact op_repT pins s σ H _ _ v u Q I rx ry ⟨l, k, xs, rfl, rfl, hT, hne, h1, h2, hz, q⟩
end
section
variable {X : Cx} {o e : Expr} {to te : TE} {y z : Str} {j k : Nat} {st : Stmt} {rest : List Stmt} {t u : TS}
/-- an evaluation behind which a token is out -/
def PEt (X : Cx) (e : Expr) (t : TE) : Prop :=
  ∀ (pins : List (Addr × Obj)) (s : Shared) (σ : L2.St) (H : Hp) (Q : VK), Inv X pins σ H s → t σ H Q → wpAny (model X.prog X.w) X.A (eval e X.env) (fun v s' => 1 ≤ s'.toks ∧ EP X pins σ Q v s') X.xe s
theorem pet_split {c0 apos pos : Pos} (ho : PE X o to) (hs : starEach [.Constant (.str y) j c0] X.env = [(false, eval (.Constant (.str y) j c0) X.env)] := by rfl) (hbase : attributeBase o "split" X.env (eval o X.env) = eval o X.env := by rfl) (hline : (apos.endLine == pos.line) = true := by rfl) :
    PEt X (.Call (.Attribute o "split" apos) [.Constant (.str y) j c0] [] pos) (tM1 (fun x xs H Q => ∃ a b, x = .str a ∧ xs = [.str b] ∧ (b.length == 0) = false ∧ a.length + 2 ≤ sizeLine ∧ rNewStrs (Txt.split a b) H Q) to (tC (.str y))) := by
  intro pins s σ H Q I h
  refine PySem.Call_method1 hbase hs hline (thn (ho.run pins s σ H _ I h) fun v s1 ⟨x, H1, I1, r1, q1⟩ => ?_)
  obtain ⟨⟨a, rfl⟩, q1⟩ := q1
  obtain ⟨t, rfl⟩ := _root_.id r1
  refine ⟨"str", _, F.plainAttrs_str, F.slot_str_split, F.type_str_split, typeIs_str _ _ _, (fun _ e => nomatch e), Calls.callWith_builtin rfl (Calls.evalArgs_plain (Calls.spliced_cons ?_))⟩
  refine Calls.Constant_str (Calls.spliced_nil ?_)
  refine wpAny_mono (PySem.wpAny_toks (mt_split pins { s1 with toks := s1.toks + 1 } σ H1 _ [.str y] _ [.str y s1.toks] Q (I1.tok _) r1 (.cons ⟨_, rfl⟩ .nil) q1)) (fun w s3 q => ⟨Nat.le_trans (by show 1 ≤ s1.toks + 1; omega) q.1, q.2⟩) fun _ _ z => z.2
theorem pss_asgT {i : Nat} {x : Str} {pos' pos : Pos} (he : PEt X e te) (hN : X.N.Nodup) (hi : X.N[i]? = some x) (hx : Loc X.env.scope x) (h2 : PSsT X rest u)
    (hs : swapsWith e (some (.Name x pos')) pos.line X.env = pure false := by rfl) (hf : X.fn x = true ∨ X.env.scope.names.lookup x = some .local := by first | exact .inl rfl | exact .inr rfl | assumption) :
    PSs X (.Assign [.Name x pos'] e pos :: rest) (tSeq (tAsg te (gName i)) u) := by
  refine ⟨fun pins s σ H D I h => ?_⟩
  refine wpAny_execs_cons (wpAny_Assign_Name (thn (he pins s σ H _ I h) fun v s1 ⟨hk1, x', H1, I1, r1, q1⟩ => ?_) hs)
  refine wpAny_mono (PySem.wpAny_toks (store_ok (Q := fun _ s2 => Inv X pins (σ.set i (some x')) H1 s2) I1 hN hi hx r1 (fun _ I2 => I2) hf)) (fun _ s2 q => ?_) fun _ _ z => z.2
  exact h2 pins s2 _ H1 D (Nat.le_trans hk1 q.1) q.2 q1
theorem pet_tup {es : List Expr} {ta : TA} {n : Nat} {pos : Pos} (h : PAT X es ta) : PET X (.Tuple es n pos) (tTup ta) := by
  intro pins s σ H Q h0 I hq
  refine wpAny_Tuple_spliced (thn (h pos pins s σ H _ h0 I hq) fun us s1 ⟨xs, H1, I1, r, z, q⟩ => ⟨by rw [← r.length]; exact z, ?_⟩)
  have hf : H1 s1.heap.objs.size = none := I1.hok.fresh (Nat.le_refl _)
  refine ⟨.ref s1.heap.objs.size, upd H1 s1.heap.objs.size (.tup xs), I1.laid (t' := s1.toks) (fun b u e => Heap.get?_push_of_some _ e) (Nat.le_refl _) ?_, rfl, q _ hf⟩
  exact ⟨z, us, r, ⟨_, Heap.get?_push_size _ rfl, rfl, _, rfl⟩⟩
end
end Al
namespace Al
open PySem PySem.Spec PyProof.Rows L2
open Evl (Ex Ev EvT EvA EvL EvU SpV RV RC RCL)
/-! ### sizes of data -/
def SOk (z : Str) : Prop := z.length ≤ 65 ∧ ∀ c ∈ z.cps.toList, c < 128
mutual
def Ok (M I : Nat) : PyData → Nat → Prop
  | .none, _ => True
  | .bool _, _ => True
  | .int i, _ => i.natAbs ≤ I
  | .str z, _ => SOk z
  | .list ds, e => ds.length ≤ M ∧ 1 ≤ e ∧ OkL M I ds (e - 1)
  | .tuple ds, e => ds.length ≤ M ∧ 1 ≤ e ∧ OkL M I ds (e - 1)
  | .dict kvs, e => kvs.length ≤ M ∧ 1 ≤ e ∧ OkK M I kvs (e - 1)
def OkL (M I : Nat) : List PyData → Nat → Prop
  | [], _ => True
  | d :: ds, e => Ok M I d e ∧ OkL M I ds e
def OkK (M I : Nat) : List (PyData × PyData) → Nat → Prop
  | [], _ => True
  | (k, d) :: r, e => Ok M I k e ∧ Ok M I d e ∧ OkK M I r e
end
mutual
theorem Ok.mono {M I M' I' : Nat} (hM : M ≤ M') (hI : I ≤ I') : ∀ (d : PyData) {e e' : Nat}, e ≤ e' → Ok M I d e → Ok M' I' d e'
  | .none, _, _, _, _ => trivial
  | .bool _, _, _, _, _ => trivial
  | .int i, _, _, _, h => Nat.le_trans (show i.natAbs ≤ I by unfold Ok at h; exact h) hI
  | .str z, _, _, _, h => by unfold Ok at h ⊢; exact h
  | .list ds, e, e', he, h => by
    unfold Ok at h ⊢
    exact ⟨by omega, by omega, OkL.mono hM hI ds (by omega) h.2.2⟩
  | .tuple ds, e, e', he, h => by
    unfold Ok at h ⊢
    exact ⟨by omega, by omega, OkL.mono hM hI ds (by omega) h.2.2⟩
  | .dict kvs, e, e', he, h => by
    unfold Ok at h ⊢
    exact ⟨by omega, by omega, OkK.mono hM hI kvs (by omega) h.2.2⟩
theorem OkL.mono {M I M' I' : Nat} (hM : M ≤ M') (hI : I ≤ I') : ∀ (ds : List PyData) {e e' : Nat}, e ≤ e' → OkL M I ds e → OkL M' I' ds e'
  | [], _, _, _, _ => trivial
  | d :: ds, e, e', he, h => by
    unfold OkL at h ⊢
    exact ⟨Ok.mono hM hI d he h.1, OkL.mono hM hI ds he h.2⟩
theorem OkK.mono {M I M' I' : Nat} (hM : M ≤ M') (hI : I ≤ I') : ∀ (ds : List (PyData × PyData)) {e e' : Nat}, e ≤ e' → OkK M I ds e → OkK M' I' ds e'
  | [], _, _, _, _ => trivial
  | (k, d) :: ds, e, e', he, h => by
    unfold OkK at h ⊢
    exact ⟨Ok.mono hM hI k he h.1, Ok.mono hM hI d he h.2.1, OkK.mono hM hI ds he h.2.2⟩
end
theorem okL_iff {M I : Nat} : ∀ {ds : List PyData} {e : Nat}, OkL M I ds e ↔ ∀ d ∈ ds, Ok M I d e
  | [], e => by unfold OkL; simp
  | d :: ds, e => by
    unfold OkL
    rw [okL_iff (ds := ds)]
    simp
mutual
theorem Ok.fit {M I : Nat} (hM : M ≤ 40000) (hI : I < 2 ^ 1000) : ∀ (d : PyData) {e : Nat}, Ok M I d e → fit d = true
  | .none, _, _ => rfl
  | .bool _, _, _ => rfl
  | .int i, _, h => by
    unfold Ok at h
    unfold Al.fit
    exact decide_eq_true (Nat.lt_of_le_of_lt h hI)
  | .str z, _, h => by
    unfold Ok SOk at h
    unfold Al.fit
    exact decide_eq_true (by omega)
  | .list ds, e, h => by
    unfold Ok at h
    unfold Al.fit
    rw [Bool.and_eq_true]
    exact ⟨decide_eq_true (by omega), OkL.fit hM hI ds h.2.2⟩
  | .tuple ds, e, h => by
    unfold Ok at h
    unfold Al.fit
    rw [Bool.and_eq_true]
    exact ⟨decide_eq_true (by omega), OkL.fit hM hI ds h.2.2⟩
  | .dict kvs, e, h => by
    unfold Ok at h
    unfold Al.fit
    rw [Bool.and_eq_true]
    exact ⟨decide_eq_true (by omega), OkK.fit hM hI kvs h.2.2⟩
theorem OkL.fit {M I : Nat} (hM : M ≤ 40000) (hI : I < 2 ^ 1000) : ∀ (ds : List PyData) {e : Nat}, OkL M I ds e → fitL ds = true
  | [], _, _ => rfl
  | d :: ds, e, h => by
    unfold OkL at h
    unfold fitL
    rw [Bool.and_eq_true]
    exact ⟨Ok.fit hM hI d h.1, OkL.fit hM hI ds h.2⟩
theorem OkK.fit {M I : Nat} (hM : M ≤ 40000) (hI : I < 2 ^ 1000) : ∀ (ds : List (PyData × PyData)) {e : Nat}, OkK M I ds e → fitK ds = true
  | [], _, _ => rfl
  | (k, d) :: ds, e, h => by
    unfold OkK at h
    unfold fitK
    rw [Bool.and_eq_true, Bool.and_eq_true]
    exact ⟨⟨Ok.fit hM hI k h.1, Ok.fit hM hI d h.2.1⟩, OkK.fit hM hI ds h.2.2⟩
end
mutual
theorem Ok.deep {M I : Nat} : ∀ (d : PyData) {e : Nat}, Ok M I d e → d.depth ≤ e
  | .none, _, _ => Nat.zero_le _
  | .bool _, _, _ => Nat.zero_le _
  | .int i, _, h => Nat.zero_le _
  | .str z, _, h => Nat.zero_le _
  | .list ds, e, h => by
    unfold Ok at h
    have q := OkL.deep ds h.2.2
    show PyData.depthAll ds + 1 ≤ e
    omega
  | .tuple ds, e, h => by
    unfold Ok at h
    have q := OkL.deep ds h.2.2
    show PyData.depthAll ds + 1 ≤ e
    omega
  | .dict kvs, e, h => by
    unfold Ok at h
    have q := OkK.deep kvs h.2.2
    show PyData.depthKv kvs + 1 ≤ e
    omega
theorem OkL.deep {M I : Nat} : ∀ (ds : List PyData) {e : Nat}, OkL M I ds e → PyData.depthAll ds ≤ e
  | [], _, _ => Nat.zero_le _
  | d :: ds, e, h => by
    unfold OkL at h
    have q1 := Ok.deep d h.1
    have q2 := OkL.deep ds h.2
    show max d.depth (PyData.depthAll ds) ≤ e
    omega
theorem OkK.deep {M I : Nat} : ∀ (ds : List (PyData × PyData)) {e : Nat}, OkK M I ds e → PyData.depthKv ds ≤ e
  | [], _, _ => Nat.zero_le _
  | (k, d) :: ds, e, h => by
    unfold OkK at h
    have q1 := Ok.deep k h.1
    have q2 := Ok.deep d h.2.1
    have q3 := OkK.deep ds h.2.2
    show max (max k.depth d.depth) (PyData.depthKv ds) ≤ e
    omega
end
mutual
theorem Ok.show {M I : Nat} (hI : I < 2 ^ 1000) : ∀ (d : PyData) {e : Nat}, Ok M I d e → d.showable = true
  | .none, _, _ => rfl
  | .bool _, _, _ => rfl
  | .int i, _, h => by
    unfold Ok at h
    show decide (i.natAbs.log2 < 1920) = true
    refine decide_eq_true ?_
    by_cases h0 : i.natAbs = 0
    · rw [h0]; decide
    · have q : i.natAbs.log2 < 1000 := (Nat.log2_lt h0).mpr (Nat.lt_of_le_of_lt h hI)
      omega
  | .str z, _, h => rfl
  | .list ds, e, h => by
    unfold Ok at h
    exact OkL.show hI ds h.2.2
  | .tuple ds, e, h => by
    unfold Ok at h
    exact OkL.show hI ds h.2.2
  | .dict kvs, e, h => by
    unfold Ok at h
    exact OkK.show hI kvs h.2.2
theorem OkL.show {M I : Nat} (hI : I < 2 ^ 1000) : ∀ (ds : List PyData) {e : Nat}, OkL M I ds e → PyData.showableAll ds = true
  | [], _, _ => rfl
  | d :: ds, e, h => by
    unfold OkL at h
    show (d.showable && PyData.showableAll ds) = true
    rw [Bool.and_eq_true]
    exact ⟨Ok.show hI d h.1, OkL.show hI ds h.2⟩
theorem OkK.show {M I : Nat} (hI : I < 2 ^ 1000) : ∀ (ds : List (PyData × PyData)) {e : Nat}, OkK M I ds e → PyData.showableKv ds = true
  | [], _, _ => rfl
  | (k, d) :: ds, e, h => by
    unfold OkK at h
    show (k.showable && d.showable && PyData.showableKv ds) = true
    rw [Bool.and_eq_true, Bool.and_eq_true]
    exact ⟨⟨Ok.show hI k h.1, Ok.show hI d h.2.1⟩, OkK.show hI ds h.2.2⟩
end
/-! ### how long what is shown may be -/
mutual
def wt : PyData → Nat
  | .none => 4
  | .bool _ => 5
  | .int _ => 70
  | .str z => 10 * z.length + 2
  | .list ds => 3 + wtL ds
  | .tuple ds => 3 + wtL ds
  | .dict kvs => 3 + wtK kvs
def wtL : List PyData → Nat
  | [] => 0
  | d :: ds => wt d + 2 + wtL ds
def wtK : List (PyData × PyData) → Nat
  | [] => 0
  | (k, d) :: r => wt k + wt d + 4 + wtK r
end
theorem wtL_app : ∀ (a b : List PyData), wtL (a ++ b) = wtL a + wtL b
  | [], b => by show wtL b = 0 + wtL b; omega
  | d :: a, b => by
    show wt d + 2 + wtL (a ++ b) = wt d + 2 + wtL a + wtL b
    rw [wtL_app a b]
    omega
theorem wtL_rev : ∀ (a : List PyData), wtL a.reverse = wtL a
  | [] => rfl
  | d :: a => by
    rw [List.reverse_cons, wtL_app, wtL_rev a]
    show wtL a + (wt d + 2 + 0) = wt d + 2 + wtL a
    omega
theorem wtL_cut (a : List PyData) (n : Nat) : wtL a = wtL (a.take n) + wtL (a.drop n) := by
  rw [← wtL_app, List.take_append_drop]
theorem wtL_rep (a : List PyData) : ∀ (k : Nat), wtL (List.replicate k a).flatten = k * wtL a
  | 0 => by simp [wtL]
  | k + 1 => by
    rw [List.replicate_succ, List.flatten_cons, wtL_app, wtL_rep a k, Nat.add_mul]
    omega
theorem wtL_mem {a : List PyData} {d : PyData} (h : d ∈ a) : wt d + 2 ≤ wtL a := by
  induction a with
  | nil => cases h
  | cons x a ih =>
    show wt d + 2 ≤ wt x + 2 + wtL a
    rcases List.mem_cons.mp h with e | e
    · rw [e]; omega
    · have := ih e
      omega
theorem wtL_le {k : Nat} : ∀ {a : List PyData}, (∀ d ∈ a, wt d ≤ k) → wtL a ≤ a.length * (k + 2)
  | [], _ => by simp [wtL]
  | x :: a, h => by
    have h1 := h x List.mem_cons_self
    have h2 := wtL_le (a := a) fun d hd => h d (List.mem_cons_of_mem _ hd)
    show wt x + 2 + wtL a ≤ (a.length + 1) * (k + 2)
    rw [Nat.add_mul]
    omega
end Al
namespace Al
open PySem PySem.Spec PyProof.Rows L2
open Evl (Ex Ev EvT EvA EvL EvU EvO SpV RV RC RCL)
variable {D : Ban} {d l : Addr} {H : Hp}
section
variable {K : PySem.W.Frag} {σ : L2.St} {ta tb tc te tl : TE} {tA : TA} {t : TT} {x y z v : V} {R Ra Rc : PyData → Prop} {r : PyData} {E : XK}
def cutD (ds : List PyData) (lo hi : Option Int) : List PyData := (ds.drop (HT.sIx ds.length 0 lo)).take (HT.sIx ds.length ds.length hi - HT.sIx ds.length 0 lo)
theorem dqL_cut {ds : List PyData} {xs : List V} (h : DqL D H ds xs) (lo hi : Option Int) : DqL D H (cutD ds lo hi) (cutV xs lo hi) := by
  unfold cutD cutV
  rw [h.length]
  exact (h.drop _).take _
theorem cutD_to (ds : List PyData) (k : Nat) : cutD ds none (some (k : Int)) = ds.take k := by
  unfold cutD
  rw [HT.sIx_none, HT.sIx_nat, List.drop_zero, Nat.sub_zero]
  rcases Nat.le_total k ds.length with h | h
  · rw [Nat.min_eq_left h]
  · rw [Nat.min_eq_right h, List.take_of_length_le (Nat.le_refl _), List.take_of_length_le h]
theorem cutD_from (ds : List PyData) (k : Nat) : cutD ds (some (k : Int)) none = ds.drop k := by
  unfold cutD
  rw [HT.sIx_none, HT.sIx_nat]
  rcases Nat.le_total k ds.length with h | h
  · rw [Nat.min_eq_left h, List.take_of_length_le (by rw [List.length_drop]; exact Nat.le_refl _)]
  · rw [Nat.min_eq_right h, List.drop_of_length_le (Nat.le_refl _), List.drop_of_length_le h]
    simp
theorem cutD_but (ds : List PyData) : cutD ds none (some (-1)) = ds.take (ds.length - 1) := by
  unfold cutD
  rw [HT.sIx_none, List.drop_zero, Nat.sub_zero]
  have : HT.sIx ds.length ds.length (some (-1)) = ds.length - 1 := by
    show (if (-1 : Int) < 0 then ((-1 : Int) + (ds.length : Int)).toNat else min (-1 : Int).toNat ds.length) = ds.length - 1
    rw [if_pos (by decide)]
    omega
  rw [this]
theorem mv_slA {A : List PyData → Prop} {tl th : TO} {lo hi : Option Int} (h : Mv D d l ta σ H fun r => ∃ ds, r = .tuple ds ∧ A ds) (h1 : ∀ H1, Nx D d l H H1 → EvO tl σ H1 lo) (h2 : ∀ H1, Nx D d l H H1 → EvO th σ H1 hi) (hR : ∀ ds, A ds → R (.tuple (cutD ds lo hi))) :
    Mv D d l (tSl (rSlA K) ta tl th) σ H R := fun Q q =>
  h _ fun r v H1 ⟨ds, e, a⟩ b c => h1 H1 c H1 (Ex.refl H1) _ fun H2 e2 => h2 H2 (c.ex e2) H2 (Ex.refl H2) _ fun H3 e3 => by
    subst e
    have n3 := c.ex (e2.trans e3)
    have b3 := (c.wd.ex (e2.trans e3)).dq b
    have b4 := b3
    unfold Dq at b4
    obtain ⟨p, xs, rfl, _, hp, hl⟩ := b4
    refine ⟨p, xs, rfl, Evl.st_of hp, fun hw => ?_, fun hw q' hq => ?_⟩
    · have e5 : cutD ds lo hi = ds := by
        unfold cutD
        rw [hl.length] at hw
        rw [hw.1, hw.2, List.drop_zero, Nat.sub_zero, List.take_of_length_le (Nat.le_refl _)]
      have := hR ds a
      rw [e5] at this
      exact q _ _ H3 this b3 n3
    · exact q _ _ _ (hR ds a) (dq_newT n3.wd hq (dqL_cut hl lo hi)) (n3.trans (n3.wd.new hq _))
theorem mv_catA {A B : List PyData → Prop} (h1 : Mv D d l ta σ H fun r => ∃ ds, r = .tuple ds ∧ A ds) (h2 : ∀ H1, Nx D d l H H1 → Mv D d l tb σ H1 fun r => ∃ ds, r = .tuple ds ∧ B ds) (hR : ∀ ds es, A ds → B es → ds.length + es.length ≤ 100000 ∧ R (.tuple (ds ++ es))) :
    Mv D d l (tOp (rCatA K) ta tb) σ H R :=
  mv_op h1 (fun r v H1 _ _ n => h2 H1 n) fun r1 v1 r2 v2 H1 ⟨ds, e1, a1⟩ ⟨es, e2, a2⟩ b1 b2 n Q q => by
    subst e1 e2
    have c1 := b1
    have c2 := b2
    unfold Dq at b1 b2
    obtain ⟨p1, xs, rfl, _, hp1, hl1⟩ := b1
    obtain ⟨p2, ys, rfl, _, hp2, hl2⟩ := b2
    have hz := (hR ds es a1 a2).1
    have hr := (hR ds es a1 a2).2
    refine ⟨p1, p2, xs, ys, rfl, rfl, Evl.st_of hp1, Evl.st_of hp2, Evl.sz_of (by rw [hl1.length, hl2.length]; exact hz), fun e => ?_, fun _ e => ?_, fun _ _ p hp => ?_⟩
    · have : ds = [] := by
        have := hl1.length
        rw [e] at this
        exact List.eq_nil_of_length_eq_zero this.symm
      subst this
      exact q _ _ _ hr c2 n.wd.nx0
    · have : es = [] := by
        have := hl2.length
        rw [e] at this
        exact List.eq_nil_of_length_eq_zero this.symm
      subst this
      rw [List.append_nil] at hr
      exact q _ _ _ hr c1 n.wd.nx0
    · exact q _ _ _ hr (dq_newT n.wd hp (hl1.append hl2)) (n.wd.new hp _)
theorem mv_revT {A : List PyData → Prop} (h : Mv D d l ta σ H fun r => ∃ ds, r = .tuple ds ∧ A ds) (hR : ∀ ds, A ds → R (.tuple ds.reverse)) : Mv D d l (tRevT K ta) σ H R := fun Q q =>
  h _ fun r v H1 ⟨ds, e, a⟩ b n => by
    subst e
    unfold Dq at b
    obtain ⟨p, xs, rfl, _, hp, hl⟩ := b
    exact ⟨p, xs, rfl, Evl.st_of hp, fun p' hp' => q _ _ _ (hR ds a) (dq_newT n.wd hp' hl.reverse) (n.trans (n.wd.new hp' _))⟩
theorem dqL_rep {ds : List PyData} {xs : List V} (h : DqL D H ds xs) : ∀ (k : Nat), DqL D H (List.replicate k ds).flatten (List.replicate k xs).flatten
  | 0 => DqL.nil
  | k + 1 => by
    rw [List.replicate_succ, List.replicate_succ, List.flatten_cons, List.flatten_cons]
    exact h.append (dqL_rep h k)
theorem rep_nil (k : Nat) : (List.replicate k ([] : List PyData)).flatten = [] := by simp
theorem mv_repA {A : List PyData → Prop} {B : Int → Prop} (h1 : Mv D d l ta σ H fun r => ∃ ds, r = .tuple ds ∧ A ds) (h2 : ∀ H1, Nx D d l H H1 → Mv D d l tb σ H1 fun r => ∃ k, r = .int k ∧ B k) (hR : ∀ ds k, A ds → B k → ds.length ≤ 1000 ∧ 2 ≤ k ∧ k ≤ 1000 ∧ R (.tuple (List.replicate k.toNat ds).flatten)) :
    Mv D d l (tOp (rRepA K) ta tb) σ H R :=
  mv_op h1 (fun r v H1 _ _ n => h2 H1 n) fun r1 v1 r2 v2 H1 ⟨ds, e1, a1⟩ ⟨k, e2, a2⟩ b1 b2 n Q q => by
    subst e1 e2
    have c1 := b1
    unfold Dq at b1 b2
    subst b2
    obtain ⟨p1, xs, rfl, _, hp1, hl1⟩ := b1
    obtain ⟨hz, k1, k2, hr⟩ := hR ds k a1 a2
    refine ⟨p1, k, xs, rfl, rfl, Evl.st_of hp1, k1, k2, by rw [hl1.length]; exact hz, fun e => ?_, fun p hp => ?_⟩
    · have : ds = [] := by
        have := hl1.length
        rw [e] at this
        exact List.eq_nil_of_length_eq_zero this.symm
      subst this
      rw [rep_nil] at hr
      exact q _ _ _ hr c1 n.wd.nx0
    · exact q _ _ _ hr (dq_newT n.wd hp (dqL_rep hl1 _)) (n.wd.new hp _)
/-- list(tuple) -/
theorem mv_listT {A : List PyData → Prop} (h : Mv D d l ta σ H fun r => ∃ ds, r = .tuple ds ∧ A ds) (hR : ∀ ds, A ds → R (.list ds)) : Mv D d l (tCB (fun xs H Q => ∃ p ys, xs = [.ref p] ∧ (SqL K H p ys ∨ SqT K H p ys) ∧ ∀ l, H l = none → Q (.ref l) (upd H l (.lst ys))) (tCons ta tNil)) σ H R := fun Q q =>
  h _ fun r v H1 ⟨ds, e, a⟩ b n => by
    subst e
    unfold Dq at b
    obtain ⟨p, xs, rfl, _, hp, hl⟩ := b
    exact ⟨p, xs, rfl, .inr (Evl.st_of hp), fun p' hp' => q _ _ _ (hR ds a) (dq_newL n.wd hp' hl) (n.trans (n.wd.new hp' _))⟩
/-! `_law_instead` -/
def PreIns (rs : List PyData) : Prop := ∃ ds at' x, rs = [.tuple ds, .int at', x] ∧ 0 ≤ at' ∧ at' < ds.length ∧ ds.length ≤ 90000
def PostIns (rs : List PyData) (r : PyData) : Prop := ∃ ds at' x, rs = [.tuple ds, .int at', x] ∧ r = .tuple (ds.take at'.toNat ++ [x] ++ ds.drop (at'.toNat + 1))
theorem mv_instead {ds : List PyData} {i : Int} (h1 : Mv D d l ta σ H fun r => r = .tuple ds) (h2 : ∀ H1, Nx D d l H H1 → Mv D d l tb σ H1 fun r => r = .int i) (h3 : ∀ H1, Nx D d l H H1 → Mv D d l tc σ H1 Ra) (i0 : 0 ≤ i) (i1 : i < ds.length) (hn : ds.length ≤ 90000)
    (hR : ∀ x, Ra x → R (.tuple (ds.take i.toNat ++ [x] ++ ds.drop (i.toNat + 1)))) : Mv D d l (tCall (spN PreIns PostIns) [] E (tCons ta (tCons tb (tCons tc tNil)))) σ H R :=
  mv_callN (Rs := fun rs => ∃ x, rs = [.tuple ds, .int i, x] ∧ Ra x) (mva_cons h1 fun r v H1 a b n => by
    subst a
    exact mva_cons (h2 H1 n) fun r v H2 a b n2 => by
      subst a
      exact mva_one ((h3 H2 (n.trans n2)).imp fun r a => ⟨r, rfl, a⟩)) fun rs ⟨x, e, a⟩ => ⟨⟨ds, i, x, e, i0, i1, hn⟩, fun r ⟨ds', i', x', e', er⟩ => by
    rw [e] at e'
    injection e' with e1 e'
    injection e1 with e1
    injection e' with e2 e'
    injection e2 with e2
    injection e' with e3 e'
    subst e1 e2 e3
    rw [er]
    exact hR x a⟩
end
section
variable {P : Program} {w : World} {K : PySem.W.Frag} {mg : Str → Option Value} {base : Heap}
theorem sc_instead : FnScope ["_law_some", "_law_at", "_law_item"] ["_law_some", "_law_at", "_law_item"] (defScope (top 41)) := ⟨rfl, rfl, rfl, by decide +kernel, rfl, by decide +kernel, by decide +kernel⟩
theorem ok_instead (F : Def K mg "_law_instead" (top 41) ["_law_some", "_law_at", "_law_item"]) : Cal P w K mg base 1 "_law_instead" (spN PreIns PostIns) := by
  refine Cal.of F sc_instead (fun vs H Q E ⟨D, d, l, rs, hw, hq, ⟨ds, i, x, er, _⟩, _⟩ => by
    have := hq.length
    rw [er] at this
    rw [this] <;> rfl) (fun f cdv A outer s H vs Q E hr h => ?_)
  refine ⟨_, (pss_one (ps_ret (pe_op op_catA (pe_op op_catA (pe_slice sl_tupA (pv 0) po_none (po_some (pv 1))) (pe_tup (pa_cons (pv 2) pa_nil))) (pe_slice sl_tupA (pv 0) (po_some (pe_op op_add (pv 1) pe_int)) po_none)))), ?_⟩
  obtain ⟨D, d, l, rs, hw, hq, ⟨ds, i, x, rfl, i0, i1, hn⟩, q⟩ := h
  unfold DqL at hq
  obtain ⟨v1, s1, rfl, q1, hq⟩ := hq
  unfold DqL at hq
  obtain ⟨v2, s2, rfl, q2, hq⟩ := hq
  unfold DqL at hq
  obtain ⟨v3, s3, rfl, q3, hq⟩ := hq
  unfold DqL at hq
  subst hq
  unfold Dq at q2
  subst q2
  obtain ⟨k, rfl⟩ : ∃ k : Nat, i = k := ⟨i.toNat, by omega⟩
  refine s_retM (R := fun r => r = .tuple (ds.take k ++ [x] ++ ds.drop (k + 1))) ?_ fun r v H' a b c => q r v H' ⟨ds, k, x, rfl, by rw [a]; rfl⟩ b c
  refine mv_catA (A := fun es => es = ds.take k ++ [x]) (B := fun es => es = ds.drop (k + 1)) ?_ (fun H1 n1 => ?_) fun as bs ea eb => ?_
  · refine mv_catA (A := fun es => es = ds.take k) (B := fun es => es = [x]) ?_ (fun H1 n1 => ?_) fun as bs ea eb => ?_
    · exact mv_slA (A := fun es => es = ds) (lo := none) (hi := some (k : Int)) (mv_var hw rfl q1 ⟨ds, rfl, rfl⟩) (fun _ _ => Evl.eo_none) (fun _ _ => Evl.eo_some (Evl.ev_var rfl)) fun es e => ⟨_, rfl, by rw [e]; exact cutD_to ds k⟩
    · exact mv_tup (mva_one (mv_var n1.wd rfl (n1.dq q3) ⟨by show 1 ≤ 100000; decide, _, rfl, rfl⟩))
    · subst ea eb
      refine ⟨?_, _, rfl, rfl⟩
      rw [List.length_take]
      show min k ds.length + 1 ≤ 100000
      omega
  · refine mv_slA (A := fun es => es = ds) (lo := some ((k + 1 : Nat) : Int)) (hi := none) (mv_var n1.wd rfl (n1.dq q1) ⟨ds, rfl, rfl⟩) (fun _ _ => Evl.eo_some ?_) (fun _ _ => Evl.eo_none) fun es e => ⟨_, rfl, by rw [e]; exact cutD_from ds (k + 1)⟩
    exact Evl.ev_is (ev_add (i := (k : Int)) (j := 1) (Evl.ev_var rfl) Evl.ev_c) (by rfl)
  · subst ea eb
    refine ⟨?_, rfl⟩
    rw [List.length_append, List.length_take, List.length_drop]
    show min k ds.length + 1 + _ ≤ 100000
    omega
end
end Al
namespace Al
open PySem PySem.Spec PyProof.Rows L2
open Evl (Ex Ev EvT EvA EvL EvU EvO SpV RV RC RCL)
variable {D : Ban} {d l : Addr} {H : Hp}
/-! ### written choices -/
def fo : V → Bool
  | .non => true
  | .bl _ => true
  | .int i => decide (i.natAbs ≤ 10 ^ 30)
  | .str z => decide (z.length ≤ 12) && z.cps.toList.all fun c => decide (c < 128)
  | _ => false
theorem fo_flt : ∀ {v : V}, fo v = true → flt v = true
  | .non, _ => rfl
  | .bl _, _ => rfl
  | .int _, _ => rfl
  | .str _, _ => rfl
theorem sok_of {z : Str} (h : (decide (z.length ≤ 12) && z.cps.toList.all fun c => decide (c < 128)) = true) : SOk z ∧ z.length ≤ 12 := by
  rw [Bool.and_eq_true] at h
  have h1 := of_decide_eq_true h.1
  exact ⟨⟨by omega, fun c hc => of_decide_eq_true (List.all_eq_true.mp h.2 c hc)⟩, h1⟩
theorem fo_ok {M e : Nat} : ∀ {v : V}, fo v = true → Ok M (10 ^ 30) (toD v) e ∧ wt (toD v) ≤ 122
  | .non, _ => ⟨trivial, by show 4 ≤ 122; decide⟩
  | .bl _, _ => ⟨trivial, by show 5 ≤ 122; decide⟩
  | .int i, h => ⟨by show i.natAbs ≤ 10 ^ 30; exact of_decide_eq_true h, by show 70 ≤ 122; decide⟩
  | .str z, h => ⟨by show SOk z; exact (sok_of h).1, by have := (sok_of h).2; show 10 * z.length + 2 ≤ 122; omega⟩
theorem all_mem {vs : List V} {p : V → Bool} (h : vs.all p = true) {v : V} (hv : v ∈ vs) : p v = true := List.all_eq_true.mp h v hv
section
variable {K : PySem.W.Frag} {σ : L2.St} {ta tb tc te tl : TE} {tA : TA} {t : TT} {x y z v : V} {R Ra Rc : PyData → Prop} {r : PyData} {E : XK}
theorem all_flt {vs : List V} (h : vs.all fo = true) : vs.all flt = true := List.all_eq_true.mpr fun v hv => fo_flt (all_mem h hv)
/-- pick(deck, [written texts and integers]) -/
theorem mv_pickF {vs : List V} (w : Wd D d l H) {kd : Nat} (hd : σ[kd]? = some (some (.ref d))) (h : EvA tA σ H vs) (hf : vs.all fo = true) (hn : vs.length ≤ 100000 := by decide) (h0 : vs ≠ [] := by simp) : Mv D d l (tCall (spM PrePick PostPick) [] E (tCons (tVar kd) (tCons (tLst tA) tNil))) σ H fun r => ∃ v ∈ vs, r = toD v :=
  mv_pickC w hd h (all_flt hf) hn h0 fun v hv => ⟨v, hv, rfl⟩
end
/-! ### `_law_any` -/
def wAny : Nat → Nat
  | 0 => 200
  | k + 1 => 206 + 3 * wAny k
def OkA (k : Nat) (r : PyData) : Prop := Ok 8 (10 ^ 30) r (2 * k + 2) ∧ wt r ≤ wAny k
theorem wAny_ge : ∀ k, 200 ≤ wAny k
  | 0 => Nat.le_refl _
  | k + 1 => by
    have := wAny_ge k
    show 200 ≤ 206 + 3 * wAny k
    omega
theorem okA_fo {k : Nat} {vs : List V} (hf : vs.all fo = true) {r : PyData} (h : ∃ v ∈ vs, r = toD v) : OkA k r := by
  obtain ⟨v, hv, rfl⟩ := h
  have := fo_ok (M := 8) (e := 2 * k + 2) (all_mem hf hv)
  exact ⟨this.1, by have h2 := wAny_ge k; omega⟩
/-- the items of a drawn list -/
structure AnyL (k : Nat) (ds : List PyData) : Prop where
  few : ds.length ≤ 3
  ok : OkL 8 (10 ^ 30) ds (2 * k)
  w : wtL ds + 200 ≤ wAny k
theorem anyL_nil (k : Nat) : AnyL k [] := ⟨Nat.zero_le _, trivial, by have := wAny_ge k; show 0 + 200 ≤ _; omega⟩
theorem anyL_of {k : Nat} {ds : List PyData} (h : ds.length ≤ 3) (hr : ∀ r ∈ ds, OkA k r) : AnyL (k + 1) ds := by
  refine ⟨h, okL_iff.mpr fun r hr2 => ?_, ?_⟩
  · have := (hr r hr2).1
    exact this
  · have h1 := wtL_le (k := wAny k) fun r hr2 => (hr r hr2).2
    have h2 : ds.length * (wAny k + 2) ≤ 3 * (wAny k + 2) := Nat.mul_le_mul_right _ h
    show wtL ds + 200 ≤ 206 + 3 * wAny k
    omega
theorem AnyL.list {k : Nat} {ds : List PyData} (h : AnyL k ds) : OkA k (.list ds) := by
  refine ⟨?_, ?_⟩
  · unfold Ok
    exact ⟨by have := h.few; omega, by omega, OkL.mono (Nat.le_refl _) (Nat.le_refl _) ds (by omega) h.ok⟩
  · have := h.w
    show 3 + wtL ds ≤ _
    omega
theorem AnyL.tuple {k : Nat} {ds : List PyData} (h : AnyL k ds) : OkA k (.tuple ds) := by
  refine ⟨?_, ?_⟩
  · unfold Ok
    exact ⟨by have := h.few; omega, by omega, OkL.mono (Nat.le_refl _) (Nat.le_refl _) ds (by omega) h.ok⟩
  · have := h.w
    show 3 + wtL ds ≤ _
    omega
theorem AnyL.dict {k : Nat} {ds : List PyData} (h : AnyL k ds) : OkA k (.dict [(.str "key", .list ds), (.int 1, .int (ds.length : Int))]) := by
  have hf := h.few
  refine ⟨?_, ?_⟩
  · unfold Ok
    refine ⟨by show 2 ≤ 8; decide, by omega, ?_⟩
    have e : 2 * k + 2 - 1 = 2 * k + 1 := by omega
    rw [e]
    unfold OkK
    refine ⟨?_, ?_, ?_⟩
    · show SOk "key"
      exact (sok_of (z := "key") (by decide +kernel)).1
    · unfold Ok
      exact ⟨by omega, by omega, h.ok⟩
    · unfold OkK
      refine ⟨by show (1 : Int).natAbs ≤ 10 ^ 30; decide, ?_, trivial⟩
      show ((ds.length : Int)).natAbs ≤ 10 ^ 30
      have : ((ds.length : Int)).natAbs = ds.length := by omega
      rw [this]
      exact Nat.le_trans hf (by decide)
  · have hw := h.w
    have ek : wt (.str "key") = 32 := by decide +kernel
    show 3 + (wt (.str "key") + (3 + wtL ds) + 4 + (70 + 70 + 4 + 0)) ≤ _
    rw [ek]
    omega
def PreAny (n : Nat) (rs : List PyData) : Prop := ∃ k : Nat, rs = [.int (k : Int)] ∧ k ≤ n
def PostAny (rs : List PyData) (r : PyData) : Prop := ∃ k : Nat, rs = [.int (k : Int)] ∧ OkA k r
theorem int_one {a b : Int} (h : [PyData.int a] = [.int b]) : a = b := by
  injection h with h _
  injection h
section
variable {P : Program} {w : World} {K : PySem.W.Frag} {mg : Str → Option Value} {base : Heap}
theorem mv_any {n k : Nat} {ta : TE} {σ : L2.St} {E : XK} {kd : Nat} (hd : σ[kd]? = some (some (.ref d))) (ha : Mv D d l ta σ H fun r => r = .int (k : Int)) (hk : k ≤ n) : Mv D d l (tCall (spM (PreAny n) PostAny) [] E (tCons (tVar kd) (tCons ta tNil))) σ H (OkA k) :=
  mv_callM (Rs := fun rs => rs = [.int (k : Int)]) hd (mva_one (ha.imp fun r e => by rw [e])) fun rs e => ⟨⟨k, e, hk⟩, fun r ⟨k', e', h⟩ => by
    rw [e] at e'
    have := int_one e'
    have : k = k' := by omega
    rw [this]
    exact h⟩
theorem sc_any : FnScope ["_law_deck_here", "_law_deep", "_law_way", "_law_some", "_law_turn"] ["_law_deck_here", "_law_deep"] (defScope (top 40)) := ⟨rfl, rfl, rfl, by decide +kernel, rfl, by decide +kernel, by decide +kernel⟩
theorem lenM {Pre : List PyData → Prop} {Post : List PyData → PyData → Prop} {n : Nat} (hp : ∀ rs, Pre rs → rs.length = n) : ∀ vs H Q E, spM Pre Post vs H Q E → vs.length = n + 1 := fun vs H Q E ⟨D, d, l, vs', rs, e, hw, hq, hP, _⟩ => by
  have := hq.length
  rw [hp rs hP] at this
  rw [e, List.length_cons, this]
theorem lenN {Pre : List PyData → Prop} {Post : List PyData → PyData → Prop} {n : Nat} (hp : ∀ rs, Pre rs → rs.length = n) : ∀ vs H Q E, spN Pre Post vs H Q E → vs.length = n := fun vs H Q E ⟨D, d, l, rs, hw, hq, hP, _⟩ => by
  have := hq.length
  rw [hp rs hP] at this
  exact this
theorem ok_any1 {n : Nat} (F : Def K mg "_law_any" (top 40) ["_law_deck_here", "_law_deep"]) (B : Bl mg) (c_draw : Cal P w K mg base 1 "_law_draw" spDraw) (c_pick : Cal P w K mg base 2 "_law_pick" (spM PrePick PostPick))
    (m : Nat) (hm : 2 ≤ m) (spR : Sp) (c_any : Cal P w K mg base m "_law_any" spR) (hsp : ∀ k, n = k + 1 → spR = spM (PreAny k) PostAny) : Cal P w K mg base (m + 1) "_law_any" (spM (PreAny n) PostAny) := by
  refine Cal.of F sc_any (lenM fun rs ⟨k, e, _⟩ => by rw [e]; rfl) (fun f cdv A outer s H vs Q E hr h => ?_)
  refine ⟨_, (pss_cons (ps_set (i := 2) sc_any.nd rfl (.inl rfl) (pcall c_draw hr (pa_cons (pv 0) (pa_cons pe_int pa_nil)) rfl (by omega)))
      (pss_cons (ps_if (pt_cmpR op_lt (pv 2) pe_int (nomark _)) (pss_one (ps_ret (pcall c_pick hr (pa_cons (pv 0) (pa_cons (pe_lst (pa_cons pe_int (pa_cons pe_int (pa_cons (pe_un un_neg pe_int) (pa_cons pe_int (pa_cons (pe_op op_pow pe_int pe_int) (pa_cons (pe_un un_neg (pe_op op_pow pe_int pe_int)) (pa_cons pe_int (pa_cons pe_int pa_nil))))))))) pa_nil)) rfl hm))) pss_nil)
      (pss_cons (ps_if (pt_cmpR op_lt (pv 2) pe_int (nomark _)) (pss_one (ps_ret (pcall c_pick hr (pa_cons (pv 0) (pa_cons (pe_lst (pa_cons pe_str (pa_cons pe_str (pa_cons pe_str (pa_cons pe_str (pa_cons pe_str (pa_cons pe_str (pa_cons pe_str pa_nil)))))))) pa_nil)) rfl hm))) pss_nil)
      (pss_cons (ps_if (pt_cmpR op_eq (pv 2) pe_int (nomark _)) (pss_one (ps_ret (pcall c_pick hr (pa_cons (pv 0) (pa_cons (pe_lst (pa_cons pe_bl (pa_cons pe_bl (pa_cons pe_non pa_nil)))) pa_nil)) rfl hm))) pss_nil)
      (pss_cons (ps_set (i := 3) sc_any.nd rfl (.inl rfl) (pe_ifExp (pt_cmpR op_gt (pv 1) pe_int (nomark _)) (pe_lc (own := [("_law_turn", 4)]) (g := gName 4) (tt := tYes) rfl sc_any.nd (pi_range1 rfl B.range (pa_cons (pcall c_draw hr (pa_cons (pv 0) (pa_cons pe_int pa_nil)) rfl (by omega)) pa_nil)) (blkOk_by (N := ["_law_deck_here", "_law_deep", "_law_way", "_law_some", "_law_turn"]) (sc := defScope (top 40)) (by decide +kernel)) (fun _ _ _ _ _ => pg_name (i := 4) sc_any.nd rfl (Or.inl rfl)) (fun _ _ _ _ _ => pts_nil)
        (fun _ _ _ _ _ => pcall c_any hr (pa_cons (pv 0) (pa_cons (pe_op op_sub (pv 1) pe_int) pa_nil)) rfl (Nat.le_refl _))) (pe_lst pa_nil)))
      (pss_cons (ps_if (pt_cmpR op_eq (pv 2) pe_int (nomark _)) (pss_one (ps_ret (pv 3))) pss_nil)
      (pss_one (ps_ret (pe_ifExp (pt_cmpR op_eq (pv 2) pe_int (nomark _)) (pe_disp (pps_cons pe_str (pv 3) (pps_cons pe_int (pe_callB call_len_seq (by rfl) B.len b_len (pa_cons (pv 3) pa_nil)) pps_nil)) rfl rfl (by simp) (by decide)) (pe_tupleOf (by rfl) B.tuple (pv 3))))))))))), ?_⟩
  obtain ⟨D, d, l, vs', rs, rfl, hw, hq, ⟨k, rfl, hk⟩, q⟩ := h
  unfold DqL at hq
  obtain ⟨v1, s1, rfl, q1, hq⟩ := hq
  unfold DqL at hq
  subst hq
  unfold Dq at q1
  subst q1
  have fin : ∀ r v H', OkA k r → Dq D H' r v → Nx D d l H H' → Q v H' := fun r v H' a b c => q r v H' ⟨k, rfl, a⟩ b c
  refine q_mv (mv_drawC hw rfl) fun r v H1 ⟨i, er, _, _⟩ b n1 => ?_
  subst er
  unfold Dq at b
  subst b
  refine Evl.q_when (b := decide (i < 2)) (Evl.et_test (Evl.ev_op (Evl.ev_var rfl) Evl.ev_c Evl.rv_I0)) (fun _ H2 e2 => ?_) (fun _ H2 e2 => ?_)
  · have n2 := n1.ex e2
    exact s_retM (mv_pickF n2.wd rfl (Evl.ea_cons Evl.ev_c (Evl.ea_cons Evl.ev_c (Evl.ea_cons (Evl.ev_un Evl.ev_c Evl.ru_neg) (Evl.ea_cons Evl.ev_c (Evl.ea_cons (ev_pow Evl.ev_c Evl.ev_c ⟨by decide, by decide, by decide⟩) (Evl.ea_cons (Evl.ev_un (ev_pow Evl.ev_c Evl.ev_c ⟨by decide, by decide, by decide⟩) Evl.ru_neg) (Evl.ea_cons Evl.ev_c (Evl.ea_cons Evl.ev_c Evl.ea_nil)))))))) (by decide +kernel)) fun r v H' a b c => fin r v H' (okA_fo (by decide +kernel) a) b (n2.trans c)
  refine Evl.q_when (b := decide (i < 4)) (Evl.et_test (Evl.ev_op (Evl.ev_var rfl) Evl.ev_c Evl.rv_I0)) (fun _ H3 e3 => ?_) (fun _ H3 e3 => ?_)
  · have n2 := n1.ex (e2.trans e3)
    exact s_retM (mv_pickF n2.wd rfl (Evl.ea_cons Evl.ev_c (Evl.ea_cons Evl.ev_c (Evl.ea_cons Evl.ev_c (Evl.ea_cons Evl.ev_c (Evl.ea_cons Evl.ev_c (Evl.ea_cons Evl.ev_c (Evl.ea_cons Evl.ev_c Evl.ea_nil))))))) (by decide +kernel)) fun r v H' a b c => fin r v H' (okA_fo (by decide +kernel) a) b (n2.trans c)
  refine Evl.q_when (b := decide (V.int i = V.int 4)) (Evl.et_test (Evl.ev_op (Evl.ev_var rfl) Evl.ev_c (Evl.rv_eq rfl))) (fun _ H4 e4 => ?_) (fun _ H4 e4 => ?_)
  · have n2 := n1.ex (e2.trans (e3.trans e4))
    exact s_retM (mv_pickF n2.wd rfl (Evl.ea_cons Evl.ev_c (Evl.ea_cons Evl.ev_c (Evl.ea_cons Evl.ev_c Evl.ea_nil))) (by decide +kernel)) fun r v H' a b c => fin r v H' (okA_fo (by decide +kernel) a) b (n2.trans c)
  have n4 := n1.ex (e2.trans (e3.trans e4))
  refine q_mv (R := fun r => ∃ ds, r = .list ds ∧ AnyL k ds) (mv_if (b := decide (0 < (k : Int))) n4.wd (Evl.et_test (Evl.ev_op (Evl.ev_var rfl) Evl.ev_c Evl.rv_I0)) (fun hb H5 n5 _ => ?_) (fun hb H5 n5 _ => ?_)) fun r v H5 ⟨ds, er, hA⟩ b n5 => ?_
  · obtain ⟨k', rfl⟩ : ∃ k', k = k' + 1 := ⟨k - 1, by have := of_decide_eq_true hb; omega⟩
    obtain ⟨n', rfl⟩ : ∃ n', n = n' + 1 := ⟨n - 1, by omega⟩
    have esp := hsp n' rfl
    subst esp
    refine (mv_lcR (n := 3) (R := OkA k') (by decide) (mva_one ((mv_drawC n5.wd rfl).imp fun r ⟨i, e, a, b⟩ => ⟨i, by rw [e], a, by omega⟩)) (fun x => by rfl) fun i p H0 H1 hp nx P hi => ?_).imp fun r ⟨ds, e, hl, hr⟩ => ⟨ds, e, anyL_of hl hr⟩
    exact mv_any rfl (mv_int P.2.1 (ev_sub (Evl.ev_var rfl) Evl.ev_c) (by congr 1; omega)) (by omega)
  · exact mv_lst (mva_nil n5.wd ⟨Nat.zero_le _, [], rfl, anyL_nil k⟩)
  · subst er
    have n5' := n4.trans n5
    refine Evl.q_when (b := decide (V.int i = V.int 5)) (Evl.et_test (Evl.ev_op (Evl.ev_var rfl) Evl.ev_c (Evl.rv_eq rfl))) (fun _ H6 e6 => ?_) (fun _ H6 e6 => ?_)
    · have n6 := n5'.ex e6
      exact s_retM (R := fun r => r = .list ds) (mv_var n6.wd rfl ((n5'.wd.ex e6).dq b) rfl) fun r v H' a b c => fin r v H' (by rw [a]; exact hA.list) b (n6.trans c)
    · have n6 := n5'.ex e6
      have b6 := (n5'.wd.ex e6).dq b
      refine s_retM (R := OkA k) (mv_if (b := decide (V.int i = V.int 6)) n6.wd (Evl.et_test (Evl.ev_op (Evl.ev_var rfl) Evl.ev_c (Evl.rv_eq rfl))) (fun hb H7 n7 _ => ?_) (fun hb H7 n7 _ => ?_)) fun r v H' a b c => fin r v H' a b (n6.trans c)
      · have b7 := n7.dq b6
        intro Q2 q2
        obtain ⟨a, xs, rfl, ha, hl⟩ := b7.seq (.inl rfl)
        intro p hp
        have ha' : H7 a = some (.lst xs) := by
          unfold Dq at b7
          obtain ⟨a', xs', ea, _, ha', hl'⟩ := b7
          injection ea with ea
          subst ea
          rcases ha with h | h
          · exact h
          · rw [h] at ha'; cases ha'
        have nz : a ≠ p := fun z => by rw [z, hp] at ha'; cases ha'
        refine ⟨.ref a, rfl, ⟨.ref a, rfl, a, xs, rfl, .inl (Evl.sq_of (by rw [upd_ne nz]; exact ha')), upd_same, [(.inr "key", .ref a), (.inl 1, .int (xs.length : Int))], rfl, by show 2 ≤ 15; decide, ?_⟩⟩
        have e2 : upd (upd H7 p (.dK [])) p (.dK (mergeK [] [(.inr "key", .ref a), (.inl 1, .int (xs.length : Int))])) = upd H7 p (.dK [(.inr "key", .ref a), (.inl 1, .int (xs.length : Int))]) := by
          funext b
          unfold upd
          split <;> rfl
        rw [e2]
        have nx := n7.wd.new hp (.dK [(.inr "key", .ref a), (.inl 1, .int (xs.length : Int))])
        refine q2 _ _ _ hA.dict ?_ nx
        unfold Dq
        refine ⟨p, _, rfl, n7.wd.nf hp, upd_same, ?_⟩
        unfold DqK
        refine ⟨_, _, _, rfl, rfl, nx.dq b7, ?_⟩
        unfold DqK
        refine ⟨_, _, _, rfl, rfl, ?_, ?_⟩
        · unfold Dq
          rw [hl.length]
        · unfold DqK
          rfl
      · exact mv_tupOf (mv_var n7.wd rfl (n7.dq b6) ⟨ds, .inl rfl, hA.tuple⟩)
theorem ok_any0 (F : Def K mg "_law_any" (top 40) ["_law_deck_here", "_law_deep"]) : Cal P w K mg base 3 "_law_any" (fun _ _ _ _ => False) :=
  Cal.of F sc_any (fun _ _ _ _ h => h.elim) (fun _ _ _ _ _ _ _ _ _ _ h => h.elim)
theorem ok_any (F : Def K mg "_law_any" (top 40) ["_law_deck_here", "_law_deep"]) (B : Bl mg) (c_draw : Cal P w K mg base 1 "_law_draw" spDraw) (c_pick : Cal P w K mg base 2 "_law_pick" (spM PrePick PostPick)) :
    ∀ n, Cal P w K mg base (n + 4) "_law_any" (spM (PreAny n) PostAny)
  | 0 => ok_any1 F B c_draw c_pick 3 (by decide) _ (ok_any0 F) fun k e => by cases e
  | n + 1 => ok_any1 F B c_draw c_pick (n + 4) (by omega) _ (ok_any F B c_draw c_pick n) fun k e => by
    have : n = k := by omega
    rw [this]
end
end Al
namespace Al
open PySem PySem.Spec PyProof.Rows L2
open Evl (Ex Ev EvT EvA EvL EvU EvO SpV RV RC RCL)
variable {D : Ban} {d l : Addr} {H : Hp}
theorem one_le {x : PyData} : [x].length ≤ 100000 := by show 1 ≤ 100000; decide
/-! ### what bending does to sizes -/
def GB (t r : PyData) : Prop := ∀ M I e W, Ok M I t e → wt t ≤ W → Ok (M + 10) (I + 10 ^ 30) r (e + 10) ∧ wt r ≤ 2 * W + 9000
def Sm (r : PyData) : Prop := Ok 8 (10 ^ 30) r 6 ∧ wt r ≤ 9000
theorem Sm.gb {t r : PyData} (h : Sm r) : GB t r := fun M I e W _ _ => ⟨Ok.mono (by omega) (Nat.le_add_left _ _) r (by omega) h.1, by have := h.2; omega⟩
theorem sm_fo {vs : List V} (hf : vs.all fo = true) {r : PyData} (h : ∃ v ∈ vs, r = toD v) : Sm r := by
  obtain ⟨v, hv, rfl⟩ := h
  have := fo_ok (M := 8) (e := 6) (all_mem hf hv)
  exact ⟨this.1, by omega⟩
theorem sm_any {r : PyData} (h : OkA 2 r) : Sm r := ⟨h.1, Nat.le_trans h.2 (by decide)⟩
theorem gb_int {i j : Int} (h : j.natAbs ≤ i.natAbs + 10) : GB (.int i) (.int j) := fun M I e W h1 _ => by
  have h2 : i.natAbs ≤ I := h1
  refine ⟨?_, by show 70 ≤ _; omega⟩
  show j.natAbs ≤ I + 10 ^ 30
  have : 10 ≤ 10 ^ 30 := by decide
  omega
theorem gb_tup1 {i : Int} : GB (.int i) (.tuple [.int i]) := fun M I e W h1 _ => by
  have h2 : i.natAbs ≤ I := h1
  refine ⟨?_, by show 3 + (70 + 2 + 0) ≤ _; omega⟩
  unfold Ok
  refine ⟨by show 1 ≤ M + 10; omega, by omega, ?_⟩
  unfold OkL
  exact ⟨by show i.natAbs ≤ I + 10 ^ 30; omega, trivial⟩
theorem gb_lst1 {i : Int} : GB (.int i) (.list [.int i]) := fun M I e W h1 _ => by
  have h2 : i.natAbs ≤ I := h1
  refine ⟨?_, by show 3 + (70 + 2 + 0) ≤ _; omega⟩
  unfold Ok
  refine ⟨by show 1 ≤ M + 10; omega, by omega, ?_⟩
  unfold OkL
  exact ⟨by show i.natAbs ≤ I + 10 ^ 30; omega, trivial⟩
theorem sok_int {i : Int} (h : i.natAbs < 10 ^ 60) : SOk (Str.ofString (toString i)) := by
  refine ⟨?_, fun c hc => ?_⟩
  · have h1 := PySem.int_text_length_le10 (k := 60) (by decide) h
    rw [PySem.ofString_length]
    omega
  · cases Nat.lt_or_ge c 128 with
    | inl h => exact h
    | inr h => exact absurd hc (int_text_free' c ⟨by omega, .inr (by omega)⟩ i)
theorem gb_str {i : Int} (h : i.natAbs < 10 ^ 60) : GB (.int i) (.str (Str.ofString (toString i))) := fun M I e W h1 _ => by
  have := (sok_int h).1
  exact ⟨by show SOk _; exact sok_int h, by show 10 * (Str.ofString (toString i)).length + 2 ≤ _; omega⟩
theorem gb_list {ds : List PyData} : GB (.tuple ds) (.list ds) := fun M I e W h1 h2 => by
  have h3 : 3 + wtL ds ≤ W := h2
  refine ⟨?_, by show 3 + wtL ds ≤ _; omega⟩
  unfold Ok at h1 ⊢
  exact ⟨by omega, by omega, OkL.mono (by omega) (by omega) ds (by omega) h1.2.2⟩
theorem gb_tup {ds es : List PyData} (h : ∀ M I e, OkL M I ds e → ds.length ≤ M → OkL (M + 10) (I + 10 ^ 30) es (e + 10) ∧ es.length ≤ M + 10) (hw : ∀ M I e, OkL M I ds e → wtL es ≤ 2 * wtL ds + 9000) : GB (.tuple ds) (.tuple es) := fun M I e W h1 h2 => by
  have h3 : 3 + wtL ds ≤ W := h2
  unfold Ok at h1
  have hw' := hw M I (e - 1) h1.2.2
  refine ⟨?_, by show 3 + wtL es ≤ _; omega⟩
  unfold Ok
  have := h M I (e - 1) h1.2.2 h1.1
  have e1 : e - 1 + 10 = e + 10 - 1 := by omega
  rw [e1] at this
  exact ⟨this.2, by omega, this.1⟩
theorem okL_app {M I e : Nat} {ds es : List PyData} (h1 : OkL M I ds e) (h2 : OkL M I es e) : OkL M I (ds ++ es) e := by
  rw [okL_iff] at h1 h2 ⊢
  intro x hx
  exact (List.mem_append.mp hx).elim (h1 x) (h2 x)
theorem okL_sub {M I e : Nat} {ds es : List PyData} (h1 : OkL M I ds e) (h : ∀ x ∈ es, x ∈ ds) : OkL M I es e := by
  rw [okL_iff] at h1 ⊢
  exact fun x hx => h1 x (h x hx)
theorem okL_up {M I e : Nat} {ds : List PyData} (h1 : OkL M I ds e) : OkL (M + 10) (I + 10 ^ 30) ds (e + 10) := OkL.mono (by omega) (by omega) ds (by omega) h1
theorem gb_app {ds : List PyData} {x : PyData} (hx : Ok 8 (10 ^ 30) x 6 ∧ wt x ≤ 8000) : GB (.tuple ds) (.tuple (ds ++ [x])) := gb_tup (fun M I e h1 h2 => ⟨okL_app (okL_up h1) (by
    unfold OkL
    exact ⟨Ok.mono (by omega) (by omega) x (by omega) hx.1, trivial⟩), by rw [List.length_append, List.length_singleton]; omega⟩) (fun _ _ _ _ => by
  rw [wtL_app]
  show wtL ds + (wt x + 2 + 0) ≤ _
  omega)
theorem gb_rev {ds : List PyData} : GB (.tuple ds) (.tuple ds.reverse) := gb_tup (fun M I e h1 h2 => ⟨okL_up (okL_sub h1 fun x hx => List.mem_reverse.mp hx), by rw [List.length_reverse]; omega⟩) (fun _ _ _ _ => by rw [wtL_rev]; omega)
theorem gb_dup {ds : List PyData} : GB (.tuple ds) (.tuple (ds ++ ds.take 1)) := gb_tup (fun M I e h1 h2 => ⟨okL_up (okL_app h1 (okL_sub h1 fun x hx => List.mem_of_mem_take hx)), by rw [List.length_append, List.length_take]; omega⟩) (fun _ _ _ _ => by
  have := wtL_cut ds 1
  rw [wtL_app]
  omega)
theorem gb_tail {ds : List PyData} : GB (.tuple ds) (.tuple (ds.drop 1)) := gb_tup (fun M I e h1 h2 => ⟨okL_up (okL_sub h1 fun x hx => List.mem_of_mem_drop hx), by rw [List.length_drop]; omega⟩) (fun _ _ _ _ => by
  have := wtL_cut ds 1
  omega)
theorem gb_wrap {t : PyData} : GB t (.tuple [t]) := fun M I e W h1 h2 => by
  refine ⟨?_, by show 3 + (wt t + 2 + 0) ≤ _; omega⟩
  unfold Ok
  refine ⟨by show 1 ≤ M + 10; omega, by omega, ?_⟩
  unfold OkL
  exact ⟨Ok.mono (by omega) (by omega) t (by omega) h1, trivial⟩
theorem at_cut {ds : List PyData} {i : Nat} {x : PyData} (h : ds[i]? = some x) : ds = ds.take i ++ [x] ++ ds.drop (i + 1) := by
  have hi : i < ds.length := (List.getElem?_eq_some_iff.mp h).1
  have hx : ds[i] = x := (List.getElem?_eq_some_iff.mp h).2
  rw [List.append_assoc]
  conv => lhs; rw [← List.take_append_drop i ds]
  congr 1
  rw [← hx]
  exact List.drop_eq_getElem_cons hi
theorem wt_ins {ds : List PyData} {i : Nat} {x y : PyData} (h : ds[i]? = some x) : wtL (ds.take i ++ [y] ++ ds.drop (i + 1)) + wt x = wtL ds + wt y := by
  have e : wtL ds = wtL (ds.take i ++ [x] ++ ds.drop (i + 1)) := by rw [← at_cut h]
  rw [e, wtL_app, wtL_app, wtL_app, wtL_app]
  show wtL (ds.take i) + (wt y + 2 + 0) + wtL (ds.drop (i + 1)) + wt x = wtL (ds.take i) + (wt x + 2 + 0) + wtL (ds.drop (i + 1)) + wt y
  omega
theorem ok_ins {M I e : Nat} {ds : List PyData} {i : Nat} {y : PyData} (h : OkL M I ds e) (hy : Ok M I y e) : OkL M I (ds.take i ++ [y] ++ ds.drop (i + 1)) e :=
  okL_app (okL_app (okL_sub h fun x hx => List.mem_of_mem_take hx) (by unfold OkL; exact ⟨hy, trivial⟩)) (okL_sub h fun x hx => List.mem_of_mem_drop hx)
theorem len_ins {ds : List PyData} {i : Nat} {x y : PyData} (h : ds[i]? = some x) : (ds.take i ++ [y] ++ ds.drop (i + 1)).length = ds.length := by
  have hi : i < ds.length := (List.getElem?_eq_some_iff.mp h).1
  rw [List.length_append, List.length_append, List.length_take, List.length_drop, List.length_singleton]
  omega
theorem gb_ins {ds : List PyData} {i : Nat} {x y : PyData} (h : ds[i]? = some x) (g : GB x y) : GB (.tuple ds) (.tuple (ds.take i ++ [y] ++ ds.drop (i + 1))) := by
  have hw := wtL_mem (List.mem_of_getElem? h)
  refine gb_tup (fun M I e h1 h2 => ⟨ok_ins (okL_up h1) (g M I e (wt x) (okL_iff.mp h1 x (List.mem_of_getElem? h)) (Nat.le_refl _)).1, by rw [len_ins h]; omega⟩) fun M I e h1 => ?_
  have h3 := wt_ins (y := y) h
  have h4 := (g M I e (wt x) (okL_iff.mp h1 x (List.mem_of_getElem? h)) (Nat.le_refl _)).2
  omega
/-! ### `_law_bent` -/
section
variable {K : PySem.W.Frag} {σ : L2.St} {ta tb tc te tl : TE} {tA : TA} {t : TT} {x y z v : V} {R Ra Rc : PyData → Prop} {r : PyData} {E : XK}
def AllR (R : PyData → Prop) (n : Nat) (rs : List PyData) : Prop := rs.length = n ∧ ∀ r ∈ rs, R r
theorem mva_allN {R : PyData → Prop} (w : Wd D d l H) : MvA D d l tNil σ H (AllR R 0) := mva_nil w ⟨rfl, fun r h => by cases h⟩
theorem mva_allC {R : PyData → Prop} {n : Nat} (h : Mv D d l ta σ H R) (k : ∀ H1, Nx D d l H H1 → MvA D d l tA σ H1 (AllR R n)) : MvA D d l (tCons ta tA) σ H (AllR R (n + 1)) :=
  mva_cons h fun r v H1 a _ c => (k H1 c).imp fun rs hr => ⟨by rw [List.length_cons, hr.1], fun x hx => by
    rcases List.mem_cons.mp hx with e | e
    · rw [e]; exact a
    · exact hr.2 x e⟩
theorem mv_pickA {n : Nat} {kd : Nat} (hd : σ[kd]? = some (some (.ref d))) (ha : MvA D d l tA σ H (AllR R n)) (h0 : 0 < n) (hn : n ≤ 100000) : Mv D d l (tCall (spM PrePick PostPick) [] E (tCons (tVar kd) (tCons (tLst tA) tNil))) σ H R :=
  mv_pick hd ha fun rs h => ⟨fun e => by have := h.1; rw [e] at this; simp at this; omega, by rw [h.1]; exact hn, h.2⟩
theorem ev_boolI {i : Int} (h : Ev ta σ H (.int i)) : Ev (tCB (fun xs H Q => (∃ i, xs = [.int i] ∧ Q (.bl (i != 0)) H) ∨ ∃ k, xs = [.bl k] ∧ Q (.bl k) H) (tCons ta tNil)) σ H (.bl (i != 0)) := fun H1 e Q q => h H1 e _ fun H2 e2 => .inl ⟨i, rfl, q H2 e2⟩
theorem ev_strI {i : Int} (h : Ev ta σ H (.int i)) (hz : i.natAbs.log2 < 1920) : Ev (tCB (fun xs H Q => ∃ i, xs = [.int i] ∧ i.natAbs.log2 < 1920 ∧ Q (.str (toString i)) H) (tCons ta tNil)) σ H (.str (Str.ofString (toString i))) := fun H1 e Q q => h H1 e _ fun H2 e2 => ⟨i, rfl, hz, q H2 e2⟩
theorem ev_nilT {p : Addr} {xs : List V} (h : Ev ta σ H (.ref p)) (hp : H p = some (.tup xs)) : Ev (tOp (rNilT K false) ta (tTup tNil)) σ H (.bl xs.isEmpty) :=
  Evl.ev_opU h (Evl.eu_tup Evl.ea_nil (by decide)) fun q H1 hq e => rv_nilT (Evl.st_of (e _ _ hp)) (Evl.st_of hq)
theorem mv_ixE {ds : List PyData} {i : Int} {x : PyData} (h1 : Mv D d l ta σ H fun r => r = .tuple ds) (h2 : ∀ H1, Nx D d l H H1 → Mv D d l tb σ H1 fun r => r = .int i) (hx : ds[i.toNat]? = some x) (i0 : 0 ≤ i) (hR : R x) : Mv D d l (tOp (rIxT K) ta tb) σ H R :=
  mv_op h1 (fun r v H1 a b c => h2 H1 c) fun r1 v1 r2 v2 H1 a1 a2 b1 b2 c Q q => by
    subst a2 a1
    unfold Dq at b1 b2
    subst b2
    obtain ⟨p, xs, rfl, _, hp, hl⟩ := b1
    obtain ⟨u, hu, huq⟩ := hl.get hx
    have ei : ((i.toNat : Nat) : Int) = i := Int.toNat_of_nonneg i0
    exact ⟨p, xs, i, u, rfl, rfl, Evl.st_of hp, by rw [← ei]; exact atI_nat hu, q _ u H1 hR huq c.wd.nx0⟩
end
def PreBent (n : Nat) (rs : List PyData) : Prop := ∃ (t : PyData) (k M I e : Nat), rs = [t, .int (k : Int)] ∧ k ≤ n ∧ Ok M I t e ∧ M ≤ 30000 ∧ I < 10 ^ 60
def PostBent (rs : List PyData) (r : PyData) : Prop := ∃ (t : PyData) (k : Nat), rs = [t, .int (k : Int)] ∧ GB t r
theorem two_in {a b : PyData} {i j : Int} (h : [a, PyData.int i] = [b, .int j]) : a = b ∧ i = j := by
  injection h with h1 h
  injection h with h2 h
  injection h2 with h2
  exact ⟨h1, h2⟩
theorem mv_bent {n k : Nat} {ta tb : TE} {σ : L2.St} {E : XK} {t : PyData} {M I e : Nat} {R : PyData → Prop} {kd : Nat} (hd : σ[kd]? = some (some (.ref d))) (ha : Mv D d l ta σ H fun r => r = t) (hb : ∀ H1, Nx D d l H H1 → Mv D d l tb σ H1 fun r => r = .int (k : Int)) (hk : k ≤ n) (hok : Ok M I t e) (hM : M ≤ 30000) (hI : I < 10 ^ 60) (hR : ∀ r, GB t r → R r) :
    Mv D d l (tCall (spM (PreBent n) PostBent) [] E (tCons (tVar kd) (tCons ta (tCons tb tNil)))) σ H R :=
  mv_callM (Rs := fun rs => rs = [t, .int (k : Int)]) hd (mva_cons ha fun r v H1 a b c => mva_one ((hb H1 c).imp fun r2 a2 => by rw [a, a2])) fun rs e1 => ⟨⟨t, k, M, I, e, e1, hk, hok, hM, hI⟩, fun r ⟨t', k', e', h⟩ => by
    rw [e1] at e'
    have := (two_in e').1
    subst this
    exact hR r h⟩
theorem isInt_iff {t : PyData} (h : isInt t = true) : ∃ i, t = .int i := by
  cases t <;> simp [isInt, isIntB, isBl] at h ⊢
theorem isTup_iff {t : PyData} (h : isTup t = true) : ∃ ds, t = .tuple ds := by
  cases t <;> simp [isTup] at h ⊢
section
variable {P : Program} {w : World} {K : PySem.W.Frag} {mg : Str → Option Value} {base : Heap}
theorem sc_bent : FnScope ["_law_deck_here", "_law_thing", "_law_deep", "_law_way", "_law_at"] ["_law_deck_here", "_law_thing", "_law_deep"] (defScope (top 42)) := ⟨rfl, rfl, rfl, by decide +kernel, rfl, by decide +kernel, by decide +kernel⟩
theorem ok_bent1 {n : Nat} (F : Def K mg "_law_bent" (top 42) ["_law_deck_here", "_law_thing", "_law_deep"]) (B : Bl mg) (c_draw : Cal P w K mg base 1 "_law_draw" spDraw) (c_pick : Cal P w K mg base 2 "_law_pick" (spM PrePick PostPick)) (c_int : Cal P w K mg base 1 "_law_is_integer" (spV (R1 isInt))) (c_any : Cal P w K mg base 6 "_law_any" (spM (PreAny 2) PostAny)) (c_ins : Cal P w K mg base 1 "_law_instead" (spN PreIns PostIns))
    (m : Nat) (hm : 6 ≤ m) (spR : Sp) (c_bent : Cal P w K mg base m "_law_bent" spR) (hsp : ∀ k, n = k + 1 → spR = spM (PreBent k) PostBent) : Cal P w K mg base (m + 1) "_law_bent" (spM (PreBent n) PostBent) := by
  refine Cal.of F sc_bent (lenM fun rs ⟨t, k, M, I, e, er, _⟩ => by rw [er]; rfl) (fun f cdv A outer s H vs Q E hr h => ?_)
  have hu := hu1 hr
  refine ⟨_, (pss_cons (ps_if (PW.pt (pw_or (pt_not (pt_val (pe_callB call_isi (by rfl) B.isinstance b_isinstance (pa_cons (pv 1) (pa_cons (pty B.tuple b_tuple) pa_nil))))) (pw_or (pt_cmpR (op_eqNilT hu) (pv 1) (pe_tup pa_nil) (nomark _)) (pw_or (pt_cmpR op_eq (pv 2) pe_int (nomark _)) (pw_or1 (pt_cmpR op_eq (pcall c_draw hr (pa_cons (pv 0) (pa_cons pe_int pa_nil)) rfl (by omega)) pe_int (nomark _))))))) (pss_cons (ps_set (i := 3) sc_bent.nd rfl (.inl rfl) (pcall c_draw hr (pa_cons (pv 0) (pa_cons pe_int pa_nil)) rfl (by omega)))
      (pss_cons (ps_if (pt_val (pcall c_int hr (pa_cons (pv 1) pa_nil) rfl (by omega))) (pss_one (ps_ret (pcall c_pick hr (pa_cons (pv 0) (pa_cons (pe_lst (pa_cons pe_int (pa_cons (pe_un un_neg (pv 1)) (pa_cons (pe_op op_sub (pv 1) pe_int) (pa_cons (pe_op op_add (pv 1) pe_int) (pa_cons (pe_callTy call_bool1 (by rfl) B.bool b_bool (pa_cons (pv 1) pa_nil)) (pa_cons (pe_callTy call_str_int (by rfl) B.str b_str (pa_cons (pv 1) pa_nil)) (pa_cons (pe_tup (pa_cons (pv 1) pa_nil)) (pa_cons (pe_lst (pa_cons (pv 1) pa_nil)) (pa_cons pe_non (pa_cons (pe_op op_add (pv 1) pe_int) pa_nil))))))))))) pa_nil)) rfl (by omega)))) pss_nil)
      (pss_cons (ps_if (PW.pt (pw_or (pt_cmpR op_eq (pv 3) pe_int (nomark _)) (pw_or1 (pt_not (pt_val (pe_callB call_isi (by rfl) B.isinstance b_isinstance (pa_cons (pv 1) (pa_cons (pty B.tuple b_tuple) pa_nil)))))))) (pss_one (ps_ret (pcall c_any hr (pa_cons (pv 0) (pa_cons pe_int pa_nil)) rfl hm))) pss_nil)
      (pss_cons (ps_if (pt_cmpR op_lt (pv 3) pe_int (nomark _)) (pss_one (ps_ret (pe_callTy call_list_of (by rfl) B.list b_list (pa_cons (pv 1) pa_nil)))) pss_nil)
      (pss_cons (ps_if (pt_cmpR op_lt (pv 3) pe_int (nomark _)) (pss_one (ps_ret (pe_op op_catA (pv 1) (pe_tup (pa_cons (pcall c_pick hr (pa_cons (pv 0) (pa_cons (pe_lst (pa_cons (pe_tup pa_nil) (pa_cons pe_int (pa_cons pe_int (pa_cons (pe_tup (pa_cons pe_int pa_nil)) (pa_cons pe_non (pa_cons pe_bl pa_nil))))))) pa_nil)) rfl (by omega)) pa_nil))))) pss_nil)
      (pss_cons (ps_if (pt_cmpR op_lt (pv 3) pe_int (nomark _)) (pss_one (ps_ret (pe_revT (pv 1)))) pss_nil)
      (pss_cons (ps_if (pt_cmpR op_lt (pv 3) pe_int (nomark _)) (pss_one (ps_ret (pe_op op_catA (pv 1) (pe_slice sl_tupA (pv 1) po_none (po_some pe_int))))) pss_nil)
      (pss_one (ps_ret (pe_ifExp (pt_cmpR op_lt (pv 3) pe_int (nomark _)) (pe_slice sl_tupA (pv 1) (po_some pe_int) po_none) (pe_tup (pa_cons (pv 1) pa_nil)))))))))))) pss_nil)
      (pss_cons (ps_set (i := 4) sc_bent.nd rfl (.inl rfl) (pcall c_draw hr (pa_cons (pv 0) (pa_cons (pe_callB call_len_seq (by rfl) B.len b_len (pa_cons (pv 1) pa_nil)) pa_nil)) rfl (by omega)))
      (pss_one (ps_ret (pcall c_ins hr (pa_cons (pv 1) (pa_cons (pv 4) (pa_cons (pcall c_bent hr (pa_cons (pv 0) (pa_cons (pe_ix ix_tup (pv 1) (pv 4) (fun _ _ => rfl)) (pa_cons (pe_op op_sub (pv 2) pe_int) pa_nil))) rfl (Nat.le_refl _)) pa_nil))) rfl (by omega)))))), ?_⟩
  obtain ⟨D, d, l, vs', rs, rfl, hw, hq, ⟨t, k, M, I, e, rfl, hk, hok, hM, hI⟩, q⟩ := h
  unfold DqL at hq
  obtain ⟨v1, s1, rfl, q1, hq⟩ := hq
  unfold DqL at hq
  obtain ⟨v2, s2, rfl, q2, hq⟩ := hq
  unfold DqL at hq
  subst hq
  unfold Dq at q2
  subst q2
  have fin : ∀ r v H', GB t r → Dq D H' r v → Nx D d l H H' → Q v H' := fun r v H' a b c => q r v H' ⟨t, k, rfl, a⟩ b c
  refine q_whenM (Rb := fun b => b = false → ∃ ds k', t = .tuple ds ∧ ds ≠ [] ∧ k = k' + 1) (mt_or (R1b := fun b => b = !isTup t) (mt_ev hw (Evl.et_not (Evl.et_B (ev_isi (Evl.ev_var rfl) q1 (kb_tup t)))) rfl) (fun _ h => by cases h) fun H1 ht n1 => ?_) (fun _ H1 n1 => ?_) (fun hb H1 n1 => ?_)
  · have ht' : isTup t = true := by
      cases hh : isTup t with
      | true => rfl
      | false => rw [hh] at ht; cases ht
    obtain ⟨ds, rfl⟩ := isTup_iff ht'
    have q1' := n1.dq q1
    have q1'' := q1'
    unfold Dq at q1''
    obtain ⟨p, xs, rfl, _, hp, hl⟩ := q1''
    have hemp : xs.isEmpty = false → ds ≠ [] := fun h e => by
      have := hl.length
      rw [e] at this
      rw [List.eq_nil_of_length_eq_zero this] at h
      cases h
    refine mt_or (R1b := fun b => b = xs.isEmpty) (mt_ev n1.wd (Evl.et_test (ev_nilT (Evl.ev_var rfl) hp)) rfl) (fun _ h => by cases h) fun H2 he n2 => ?_
    refine mt_or (R1b := fun b => b = decide (V.int (k : Int) = V.int 0)) (mt_ev n2.wd (Evl.et_test (Evl.ev_op (Evl.ev_var rfl) Evl.ev_c (Evl.rv_eq rfl))) rfl) (fun _ h => by cases h) fun H3 hz n3 => ?_
    have hk0 : k ≠ 0 := fun e => by
      rw [e] at hz
      simp at hz
    exact mt_eq ((mv_drawC n3.wd rfl).imp fun r ⟨i, e, _, _⟩ => ⟨i, e, fun _ => ⟨ds, k - 1, rfl, hemp he.symm, by omega⟩⟩)
  · have q1' := n1.dq q1
    refine q_mv (mv_drawC n1.wd rfl) fun r v H2 ⟨i, er, _, _⟩ b n2 => ?_
    subst er
    unfold Dq at b
    subst b
    have n2' := n1.trans n2
    have q2 := n2.dq q1'
    refine Evl.q_when (b := isInt t) (Evl.et_B (ev_def (Evl.ea_cons (Evl.ev_var rfl) Evl.ea_nil) fun H1 e1 => ⟨D, t, v1, rfl, Dq.same e1 q2, rfl⟩)) (fun hi H3 e3 => ?_) (fun hi H3 e3 => ?_)
    · obtain ⟨j, rfl⟩ := isInt_iff hi
      have n3 := n2'.ex e3
      unfold Dq at q1
      subst q1
      have hj : j.natAbs ≤ I := hok
      have hj2 : j.natAbs < 10 ^ 60 := by omega
      have hj3 : j.natAbs.log2 < 1920 := by
        by_cases h0 : j.natAbs = 0
        · rw [h0]; decide
        · have q : j.natAbs.log2 < 200 := (Nat.log2_lt h0).mpr (Nat.lt_trans hj2 (by decide))
          omega
      refine s_retM (R := GB (.int j)) (mv_pickA (n := 10) rfl ?_ (by decide) (by decide)) fun r v H' a b c => fin r v H' a b (n3.trans c)
      refine mva_allC (mv_int n3.wd Evl.ev_c (gb_int (by omega))) fun H4 m4 => ?_
      refine mva_allC (mv_int m4.wd (Evl.ev_un (Evl.ev_var rfl) Evl.ru_neg) (gb_int (by omega))) fun H5 m5 => ?_
      refine mva_allC (mv_int m5.wd (ev_sub (Evl.ev_var rfl) Evl.ev_c) (gb_int (by omega))) fun H6 m6 => ?_
      refine mva_allC (mv_int m6.wd (ev_add (Evl.ev_var rfl) Evl.ev_c) (gb_int (by omega))) fun H7 m7 => ?_
      refine mva_allC (mv_bl m7.wd (ev_boolI (Evl.ev_var rfl)) (sm_fo (vs := [.bl (j != 0)]) rfl ⟨_, List.mem_singleton_self _, rfl⟩).gb) fun H8 m8 => ?_
      refine mva_allC (mv_str m8.wd (ev_strI (Evl.ev_var rfl) hj3) (gb_str hj2)) fun H9 m9 => ?_
      refine mva_allC (mv_tup (mva_one (mv_int m9.wd (Evl.ev_var rfl) ⟨one_le, gb_tup1⟩))) fun H10 m10 => ?_
      refine mva_allC (mv_lst (mva_one (mv_int m10.wd (Evl.ev_var rfl) ⟨one_le, gb_lst1⟩))) fun H11 m11 => ?_
      refine mva_allC (mv_non m11.wd Evl.ev_c (sm_fo (vs := [.non]) rfl ⟨_, List.mem_singleton_self _, rfl⟩).gb) fun H12 m12 => ?_
      exact mva_allC (mv_int m12.wd (ev_add (Evl.ev_var rfl) Evl.ev_c) (gb_int (by omega))) fun H13 m13 => mva_allN m13.wd
    · have n3 := n2'.ex e3
      have q3 := (n2'.wd.ex e3).dq q2
      refine Evl.q_when (b := decide (V.int i = V.int 0) || !isTup t) (Evl.et_or (Evl.et_test (Evl.ev_op (Evl.ev_var rfl) Evl.ev_c (Evl.rv_eq rfl))) fun _ => Evl.et_not (Evl.et_B (ev_isi (Evl.ev_var rfl) q3 (kb_tup t)))) (fun _ H4 e4 => ?_) (fun h4 H4 e4 => ?_)
      · exact s_retM (mv_any (k := 2) rfl (mv_int (n3.wd.ex e4).wd Evl.ev_c rfl) (Nat.le_refl _)) fun r v H' a b c => fin r v H' (sm_any a).gb b ((n3.ex e4).trans c)
      · have ht' : isTup t = true := by
          cases hh : isTup t with
          | true => rfl
          | false => rw [hh, Bool.not_false, Bool.or_true] at h4; cases h4
        obtain ⟨ds, rfl⟩ := isTup_iff ht'
        have n4 := n3.ex e4
        have q4 := (n3.wd.ex e4).dq q3
        have hlen : ds.length ≤ 30000 := by
          unfold Ok at hok
          omega
        refine Evl.q_when (b := decide (i < 4)) (Evl.et_test (Evl.ev_op (Evl.ev_var rfl) Evl.ev_c Evl.rv_I0)) (fun _ H5 e5 => ?_) (fun _ H5 e5 => ?_)
        · have n5 := n4.ex e5
          exact s_retM (R := GB (.tuple ds)) (mv_listT (A := fun es => es = ds) (mv_var n5.wd rfl ((n4.wd.ex e5).dq q4) ⟨ds, rfl, rfl⟩) fun es ee => by rw [ee]; exact gb_list) fun r v H' a b c => fin r v H' a b (n5.trans c)
        have n5 := n4.ex e5
        have q5 := (n4.wd.ex e5).dq q4
        refine Evl.q_when (b := decide (i < 6)) (Evl.et_test (Evl.ev_op (Evl.ev_var rfl) Evl.ev_c Evl.rv_I0)) (fun _ H6 e6 => ?_) (fun _ H6 e6 => ?_)
        · have n6 := n5.ex e6
          refine s_retM (R := GB (.tuple ds)) (mv_catA (A := fun es => es = ds) (B := fun es => ∃ x, es = [x] ∧ Ok 8 (10 ^ 30) x 6 ∧ wt x ≤ 8000) (mv_var n6.wd rfl ((n5.wd.ex e6).dq q5) ⟨ds, rfl, rfl⟩) (fun H7 n7 => ?_) fun es fs ee ⟨x, ef, hx⟩ => ?_) fun r v H' a b c => fin r v H' a b (n6.trans c)
          · refine mv_tup (mva_one (Mv.imp (R := fun x => Ok 8 (10 ^ 30) x 6 ∧ wt x ≤ 8000) (mv_pickA (n := 6) rfl ?_ (by decide) (by decide)) fun x hx => ⟨one_le, [x], rfl, x, rfl, hx⟩))
            have small : ∀ v, fo v = true → Ok 8 (10 ^ 30) (toD v) 6 ∧ wt (toD v) ≤ 8000 := fun v h => ⟨(fo_ok h).1, Nat.le_trans (fo_ok (M := 8) (e := 6) h).2 (by decide)⟩
            refine mva_allC (mv_tup (mva_nil n7.wd ⟨by decide, ?_, by show 3 ≤ 8000; decide⟩)) fun H8 n8 => ?_
            · unfold Ok
              exact ⟨by decide, by decide, trivial⟩
            refine mva_allC (mv_int n8.wd Evl.ev_c (small (.int 0) (by decide +kernel))) fun H9 n9 => ?_
            refine mva_allC (mv_int n9.wd Evl.ev_c (small (.int 1) (by decide +kernel))) fun H10 n10 => ?_
            refine mva_allC (mv_tup (mva_one (mv_int n10.wd Evl.ev_c ⟨by decide, ?_, by show 3 + (70 + 2 + 0) ≤ 8000; decide⟩))) fun H11 n11 => ?_
            · unfold Ok
              refine ⟨by decide, by decide, ?_⟩
              unfold OkL
              exact ⟨by show (0 : Int).natAbs ≤ 10 ^ 30; decide, trivial⟩
            refine mva_allC (mv_non n11.wd Evl.ev_c (small .non rfl)) fun H12 n12 => ?_
            exact mva_allC (mv_bl n12.wd Evl.ev_c (small (.bl true) rfl)) fun H13 n13 => mva_allN n13.wd
          · subst ee ef
            exact ⟨by rw [List.length_singleton]; omega, gb_app hx⟩
        have n6 := n5.ex e6
        have q6 := (n5.wd.ex e6).dq q5
        refine Evl.q_when (b := decide (i < 9)) (Evl.et_test (Evl.ev_op (Evl.ev_var rfl) Evl.ev_c Evl.rv_I0)) (fun _ H7 e7 => ?_) (fun _ H7 e7 => ?_)
        · have n7 := n6.ex e7
          exact s_retM (R := GB (.tuple ds)) (mv_revT (A := fun es => es = ds) (mv_var n7.wd rfl ((n6.wd.ex e7).dq q6) ⟨ds, rfl, rfl⟩) fun es ee => by rw [ee]; exact gb_rev) fun r v H' a b c => fin r v H' a b (n7.trans c)
        have n7 := n6.ex e7
        have q7 := (n6.wd.ex e7).dq q6
        refine Evl.q_when (b := decide (i < 11)) (Evl.et_test (Evl.ev_op (Evl.ev_var rfl) Evl.ev_c Evl.rv_I0)) (fun _ H8 e8 => ?_) (fun _ H8 e8 => ?_)
        · have n8 := n7.ex e8
          have q8 := (n7.wd.ex e8).dq q7
          refine s_retM (R := GB (.tuple ds)) (mv_catA (A := fun es => es = ds) (B := fun es => es = ds.take 1) (mv_var n8.wd rfl q8 ⟨ds, rfl, rfl⟩) (fun H9 n9 => ?_) fun es fs ee ef => ?_) fun r v H' a b c => fin r v H' a b (n8.trans c)
          · exact mv_slA (A := fun es => es = ds) (lo := none) (hi := some ((1 : Nat) : Int)) (mv_var n9.wd rfl (n9.dq q8) ⟨ds, rfl, rfl⟩) (fun _ _ => Evl.eo_none) (fun _ _ => Evl.eo_some Evl.ev_c) fun es ee => ⟨_, rfl, by rw [ee]; exact cutD_to ds 1⟩
          · subst ee ef
            exact ⟨by rw [List.length_take]; omega, gb_dup⟩
        have n8 := n7.ex e8
        have q8 := (n7.wd.ex e8).dq q7
        refine s_retM (R := GB (.tuple ds)) (mv_if (b := decide (i < 13)) n8.wd (Evl.et_test (Evl.ev_op (Evl.ev_var rfl) Evl.ev_c Evl.rv_I0)) (fun hb H9 n9 _ => ?_) (fun hb H9 n9 _ => ?_)) fun r v H' a b c => fin r v H' a b (n8.trans c)
        · exact mv_slA (A := fun es => es = ds) (lo := some ((1 : Nat) : Int)) (hi := none) (mv_var n9.wd rfl (n9.dq q8) ⟨ds, rfl, rfl⟩) (fun _ _ => Evl.eo_some Evl.ev_c) (fun _ _ => Evl.eo_none) fun es ee => by rw [ee, cutD_from]; exact gb_tail
        · exact mv_tup (mva_one (mv_var n9.wd rfl (n9.dq q8) ⟨one_le, gb_wrap⟩))
  · obtain ⟨ds, k', rfl, hne, rfl⟩ := hb rfl
    obtain ⟨n', rfl⟩ : ∃ n', n = n' + 1 := ⟨n - 1, by omega⟩
    have esp := hsp n' rfl
    subst esp
    have hok2 := hok
    unfold Ok at hok2
    have hlen : ds.length ≤ 30000 := by omega
    have hpos : 0 < ds.length := List.length_pos_iff.mpr hne
    have q1' := n1.dq q1
    refine q_mv (R := fun r => ∃ i : Int, r = .int i ∧ 0 ≤ i ∧ i < ds.length) (mv_draw rfl (mv_int n1.wd (ev_lenD (Evl.ev_var rfl) q1' (.inr rfl)) rfl) (by omega) (by omega) fun i a b => ⟨i, rfl, a, b⟩) fun r v H2 ⟨i, er, i0, i1⟩ b n2 => ?_
    subst er
    unfold Dq at b
    subst b
    have n2' := n1.trans n2
    have q2 := n2.dq q1'
    have hi : i.toNat < ds.length := by omega
    have hx := List.getElem?_eq_getElem hi
    have hxo := okL_iff.mp hok2.2.2 _ (List.getElem_mem hi)
    refine s_retM (R := GB (.tuple ds)) (mv_instead (ds := ds) (i := i) (Ra := GB ds[i.toNat]) (mv_var n2'.wd rfl q2 rfl) (fun H3 n3 => mv_int n3.wd (Evl.ev_var rfl) rfl) (fun H3 n3 => ?_) i0 i1 (by omega) fun x hxg => gb_ins hx hxg) fun r v H' a b c => fin r v H' a b (n2'.trans c)
    exact mv_bent (k := k') rfl (mv_ixE (mv_var n3.wd rfl (n3.dq q2) rfl) (fun H4 n4 => mv_int n4.wd (Evl.ev_var rfl) rfl) hx i0 rfl) (fun H4 n4 => mv_int n4.wd (ev_sub (Evl.ev_var rfl) Evl.ev_c) (by congr 1; omega)) (by omega) hxo hM hI fun r h => h
theorem ok_bent0 (F : Def K mg "_law_bent" (top 42) ["_law_deck_here", "_law_thing", "_law_deep"]) : Cal P w K mg base 6 "_law_bent" (fun _ _ _ _ => False) :=
  Cal.of F sc_bent (fun _ _ _ _ h => h.elim) (fun _ _ _ _ _ _ _ _ _ _ h => h.elim)
theorem ok_bent (F : Def K mg "_law_bent" (top 42) ["_law_deck_here", "_law_thing", "_law_deep"]) (B : Bl mg) (c_draw : Cal P w K mg base 1 "_law_draw" spDraw) (c_pick : Cal P w K mg base 2 "_law_pick" (spM PrePick PostPick)) (c_int : Cal P w K mg base 1 "_law_is_integer" (spV (R1 isInt))) (c_any : Cal P w K mg base 6 "_law_any" (spM (PreAny 2) PostAny)) (c_ins : Cal P w K mg base 1 "_law_instead" (spN PreIns PostIns)) :
    ∀ n, Cal P w K mg base (n + 7) "_law_bent" (spM (PreBent n) PostBent)
  | 0 => ok_bent1 F B c_draw c_pick c_int c_any c_ins 6 (by decide) _ (ok_bent0 F) fun k e => by cases e
  | n + 1 => ok_bent1 F B c_draw c_pick c_int c_any c_ins (n + 7) (by omega) _ (ok_bent F B c_draw c_pick c_int c_any c_ins n) fun k e => by
    have : n = k := by omega
    rw [this]
end
end Al
namespace Al
open PySem PySem.Spec PyProof.Rows L2
open Evl (Ex Ev EvT EvA EvL EvU EvO SpV RV RC RCL)
variable {D : Ban} {d l : Addr} {H : Hp}
def GS (t r : PyData) : Prop := ∀ M I e W, Ok M I t e → wt t ≤ W → Ok (13 * M + 10) (I + 10 ^ 30) r (e + 10) ∧ wt r ≤ 13 * W + 9000
theorem GB.gs {t r : PyData} (h : GB t r) : GS t r := fun M I e W h1 h2 => ⟨Ok.mono (by omega) (Nat.le_refl _) r (Nat.le_refl _) (h M I e W h1 h2).1, by have := (h M I e W h1 h2).2; omega⟩
theorem gs_tup {ds es : List PyData} (h : ∀ M I e, OkL M I ds e → ds.length ≤ M → OkL (13 * M + 10) (I + 10 ^ 30) es (e + 10) ∧ es.length ≤ 13 * M + 10) (hw : ∀ M I e, OkL M I ds e → wtL es ≤ 13 * wtL ds + 9000) : GS (.tuple ds) (.tuple es) := fun M I e W h1 h2 => by
  have h3 : 3 + wtL ds ≤ W := h2
  unfold Ok at h1
  have hw' := hw M I (e - 1) h1.2.2
  refine ⟨?_, by show 3 + wtL es ≤ _; omega⟩
  unfold Ok
  have := h M I (e - 1) h1.2.2 h1.1
  have e1 : e - 1 + 10 = e + 10 - 1 := by omega
  rw [e1] at this
  exact ⟨this.2, by omega, this.1⟩
theorem okL_up13 {M I e : Nat} {ds : List PyData} (h1 : OkL M I ds e) : OkL (13 * M + 10) (I + 10 ^ 30) ds (e + 10) := OkL.mono (by omega) (by omega) ds (by omega) h1
theorem gs_rep {ds : List PyData} {k : Nat} (hk : k ≤ 13) : GS (.tuple ds) (.tuple (List.replicate k ds).flatten) := gs_tup (fun M I e h1 h2 => ⟨okL_up13 (okL_sub h1 fun x hx => by
    obtain ⟨l, hl, hx⟩ := List.mem_flatten.mp hx
    rw [(List.mem_replicate.mp hl).2] at hx
    exact hx), by
  rw [PyProof.Rows.lm_len_rep_flat]
  have := Nat.mul_le_mul hk h2
  omega⟩) fun M I e h1 => by
  rw [wtL_rep]
  have := Nat.mul_le_mul_right (wtL ds) hk
  omega
theorem gs_ins {ds : List PyData} {i : Nat} {x y : PyData} (h : ds[i]? = some x) (g : GS x y) : GS (.tuple ds) (.tuple (ds.take i ++ [y] ++ ds.drop (i + 1))) := by
  have hw := wtL_mem (List.mem_of_getElem? h)
  refine gs_tup (fun M I e h1 h2 => ⟨ok_ins (okL_up13 h1) (g M I e (wt x) (okL_iff.mp h1 x (List.mem_of_getElem? h)) (Nat.le_refl _)).1, by rw [len_ins h]; omega⟩) fun M I e h1 => ?_
  have h3 := wt_ins (y := y) h
  have h4 := (g M I e (wt x) (okL_iff.mp h1 x (List.mem_of_getElem? h)) (Nat.le_refl _)).2
  omega
theorem depth_mem : ∀ {ds : List PyData} {x : PyData}, x ∈ ds → x.depth ≤ PyData.depthAll ds
  | [], _, h => by cases h
  | d :: ds, x, h => by
    show x.depth ≤ max d.depth (PyData.depthAll ds)
    rcases List.mem_cons.mp h with e | e
    · rw [e]; omega
    · have := depth_mem e
      omega
def PreSp (n : Nat) (rs : List PyData) : Prop := ∃ (t : PyData) (M I e : Nat), rs = [t] ∧ t.depth ≤ n ∧ Ok M I t e ∧ M ≤ 1000 ∧ I < 10 ^ 60
def PostSp (rs : List PyData) (r : PyData) : Prop := ∃ t : PyData, rs = [t] ∧ GS t r
theorem mv_spoilt {n : Nat} {ta : TE} {σ : L2.St} {E : XK} {t : PyData} {M I e : Nat} {R : PyData → Prop} {kd : Nat} (hd : σ[kd]? = some (some (.ref d))) (ha : Mv D d l ta σ H fun r => r = t) (hk : t.depth ≤ n) (hok : Ok M I t e) (hM : M ≤ 1000) (hI : I < 10 ^ 60) (hR : ∀ r, GS t r → R r) :
    Mv D d l (tCall (spM (PreSp n) PostSp) [] E (tCons (tVar kd) (tCons ta tNil))) σ H R :=
  mv_callM (Rs := fun rs => rs = [t]) hd (mva_one (ha.imp fun r a => by rw [a])) fun rs e1 => ⟨⟨t, M, I, e, e1, hk, hok, hM, hI⟩, fun r ⟨t', e', h⟩ => by
    rw [e1] at e'
    injection e' with e' _
    subst e'
    exact hR r h⟩
theorem isBl_iff {t : PyData} (h : isBl t = true) : ∃ b, t = .bool b := by
  cases t <;> simp [isBl] at h ⊢
section
variable {P : Program} {w : World} {K : PySem.W.Frag} {mg : Str → Option Value} {base : Heap}
theorem sc_spoilt : FnScope ["_law_deck_here", "_law_thing", "_law_way", "_law_at"] ["_law_deck_here", "_law_thing"] (defScope (top 57)) := ⟨rfl, rfl, rfl, by decide +kernel, rfl, by decide +kernel, by decide +kernel⟩
theorem ok_spoilt1 {n : Nat} (F : Def K mg "_law_spoilt" (top 57) ["_law_deck_here", "_law_thing"]) (B : Bl mg) (c_draw : Cal P w K mg base 1 "_law_draw" spDraw) (c_pick : Cal P w K mg base 2 "_law_pick" (spM PrePick PostPick)) (c_int : Cal P w K mg base 1 "_law_is_integer" (spV (R1 isInt))) (c_bent : Cal P w K mg base 8 "_law_bent" (spM (PreBent 1) PostBent)) (c_ins : Cal P w K mg base 1 "_law_instead" (spN PreIns PostIns))
    (m : Nat) (hm : 8 ≤ m) (spR : Sp) (c_sp : Cal P w K mg base m "_law_spoilt" spR) (hsp : ∀ k, n = k + 1 → spR = spM (PreSp k) PostSp) : Cal P w K mg base (m + 1) "_law_spoilt" (spM (PreSp n) PostSp) := by
  refine Cal.of F sc_spoilt (lenM fun rs ⟨t, M, I, e, er, _⟩ => by rw [er]; rfl) (fun f cdv A outer s H vs Q E hr h => ?_)
  have hu := hu1 hr
  refine ⟨_, (pss_cons (ps_if (PW.pt (pw_and (pt_val (pe_callB call_isi (by rfl) B.isinstance b_isinstance (pa_cons (pv 1) (pa_cons (pty B.str b_str) pa_nil)))) (pw_and1 (pt_cmpR op_gt (pcall c_draw hr (pa_cons (pv 0) (pa_cons pe_int pa_nil)) rfl (by omega)) pe_int (nomark _))))) (pss_one (ps_ret (pcall c_pick hr (pa_cons (pv 0) (pa_cons (pe_lst (pa_cons pe_str (pa_cons pe_str (pa_cons pe_str (pa_cons pe_str (pa_cons pe_str (pa_cons pe_str (pa_cons pe_str (pa_cons pe_str (pa_cons pe_str (pa_cons pe_str (pa_cons pe_str (pa_cons pe_str pa_nil))))))))))))) pa_nil)) rfl (by omega)))) pss_nil)
      (pss_cons (ps_if (PW.pt (pw_or (pt_not (pt_val (pe_callB call_isi (by rfl) B.isinstance b_isinstance (pa_cons (pv 1) (pa_cons (pty B.tuple b_tuple) pa_nil))))) (pw_or (pt_cmpR (op_eqNilT hu) (pv 1) (pe_tup pa_nil) (nomark _)) (pw_or1 (pt_cmpR op_eq (pcall c_draw hr (pa_cons (pv 0) (pa_cons pe_int pa_nil)) rfl (by omega)) pe_int (nomark _)))))) (pss_cons (ps_set (i := 2) sc_spoilt.nd rfl (.inl rfl) (pcall c_draw hr (pa_cons (pv 0) (pa_cons pe_int pa_nil)) rfl (by omega)))
      (pss_cons (ps_if (PW.pt (pw_and (pt_cmpR op_eq (pv 2) pe_int (nomark _)) (pw_and1 (pt_val (pcall c_int hr (pa_cons (pv 1) pa_nil) rfl (by omega)))))) (pss_one (ps_ret (pe_op op_add (pv 1) (pcall c_pick hr (pa_cons (pv 0) (pa_cons (pe_lst (pa_cons pe_int (pa_cons (pe_un un_neg pe_int) (pa_cons pe_int (pa_cons pe_int pa_nil))))) pa_nil)) rfl (by omega))))) pss_nil)
      (pss_cons (ps_if (PW.pt (pw_and (pt_cmpR op_eq (pv 2) pe_int (nomark _)) (pw_and1 (pt_val (pe_callB call_isi (by rfl) B.isinstance b_isinstance (pa_cons (pv 1) (pa_cons (pty B.bool b_bool) pa_nil))))))) (pss_one (ps_ret (pe_not (pv 1)))) pss_nil)
      (pss_one (ps_ret (pe_ifExp (PW.pt (pw_and (pt_cmpR op_eq (pv 2) pe_int (nomark _)) (pw_and1 (pt_val (pe_callB call_isi (by rfl) B.isinstance b_isinstance (pa_cons (pv 1) (pa_cons (pty B.tuple b_tuple) pa_nil))))))) (pe_op op_repA (pv 1) (pcall c_pick hr (pa_cons (pv 0) (pa_cons (pe_lst (pa_cons pe_int (pa_cons pe_int (pa_cons pe_int (pa_cons pe_int pa_nil))))) pa_nil)) rfl (by omega))) (pcall c_bent hr (pa_cons (pv 0) (pa_cons (pv 1) (pa_cons pe_int pa_nil))) rfl hm))))))) pss_nil)
      (pss_cons (ps_set (i := 3) sc_spoilt.nd rfl (.inl rfl) (pcall c_draw hr (pa_cons (pv 0) (pa_cons (pe_callB call_len_seq (by rfl) B.len b_len (pa_cons (pv 1) pa_nil)) pa_nil)) rfl (by omega)))
      (pss_one (ps_ret (pcall c_ins hr (pa_cons (pv 1) (pa_cons (pv 3) (pa_cons (pcall c_sp hr (pa_cons (pv 0) (pa_cons (pe_ix ix_tup (pv 1) (pv 3) (fun _ _ => rfl)) pa_nil)) rfl (Nat.le_refl _)) pa_nil))) rfl (by omega))))))), ?_⟩
  obtain ⟨D, d, l, vs', rs, rfl, hw, hq, ⟨t, M, I, e, rfl, hk, hok, hM, hI⟩, q⟩ := h
  unfold DqL at hq
  obtain ⟨v1, s1, rfl, q1, hq⟩ := hq
  unfold DqL at hq
  subst hq
  have fin : ∀ r v H', GS t r → Dq D H' r v → Nx D d l H H' → Q v H' := fun r v H' a b c => q r v H' ⟨t, rfl, a⟩ b c
  refine q_whenM (Rb := fun _ => True) (mt_and (R1b := fun _ => True) (mt_ev hw (Evl.et_B (ev_isi (Evl.ev_var rfl) q1 (kb_str t))) trivial) (fun _ => trivial) fun H1 _ n1 => mt_cmp ((mv_drawC n1.wd rfl).imp fun r ⟨i, e, _, _⟩ => ⟨i, e, trivial⟩)) (fun _ H1 n1 => ?_) (fun _ H1 n1 => ?_)
  · exact s_retM (mv_pickF n1.wd rfl (Evl.ea_cons Evl.ev_c (Evl.ea_cons Evl.ev_c (Evl.ea_cons Evl.ev_c (Evl.ea_cons Evl.ev_c (Evl.ea_cons Evl.ev_c (Evl.ea_cons Evl.ev_c (Evl.ea_cons Evl.ev_c (Evl.ea_cons Evl.ev_c (Evl.ea_cons Evl.ev_c (Evl.ea_cons Evl.ev_c (Evl.ea_cons Evl.ev_c (Evl.ea_cons Evl.ev_c Evl.ea_nil)))))))))))) (by decide +kernel)) fun r v H' a b c => fin r v H' (sm_fo (by decide +kernel) a).gb.gs b (n1.trans c)
  have q1' := n1.dq q1
  refine q_whenM (Rb := fun b => b = false → ∃ ds, t = .tuple ds ∧ ds ≠ []) (mt_or (R1b := fun b => b = !isTup t) (mt_ev n1.wd (Evl.et_not (Evl.et_B (ev_isi (Evl.ev_var rfl) q1' (kb_tup t)))) rfl) (fun _ h => by cases h) fun H2 ht n2 => ?_) (fun _ H2 n2 => ?_) (fun hb H2 n2 => ?_)
  · have ht' : isTup t = true := by
      cases hh : isTup t with
      | true => rfl
      | false => rw [hh] at ht; cases ht
    obtain ⟨ds, rfl⟩ := isTup_iff ht'
    have q2 := n2.dq q1'
    have q2' := q2
    unfold Dq at q2'
    obtain ⟨p, xs, rfl, _, hp, hl⟩ := q2'
    have hemp : xs.isEmpty = false → ds ≠ [] := fun h e => by
      have := hl.length
      rw [e] at this
      rw [List.eq_nil_of_length_eq_zero this] at h
      cases h
    refine mt_or (R1b := fun b => b = xs.isEmpty) (mt_ev n2.wd (Evl.et_test (ev_nilT (Evl.ev_var rfl) hp)) rfl) (fun _ h => by cases h) fun H3 he n3 => ?_
    exact mt_eq ((mv_drawC n3.wd rfl).imp fun r ⟨i, e, _, _⟩ => ⟨i, e, fun _ => ⟨ds, rfl, hemp he.symm⟩⟩)
  · have n2' := n1.trans n2
    have q2 := n2.dq q1'
    refine q_mv (mv_drawC n2'.wd rfl) fun r v H3 ⟨i, er, _, _⟩ b n3 => ?_
    subst er
    unfold Dq at b
    subst b
    have n3' := n2'.trans n3
    have q3 := n3.dq q2
    refine Evl.q_when (b := decide (V.int i = V.int 0) && isInt t) (Evl.et_and (Evl.et_test (Evl.ev_op (Evl.ev_var rfl) Evl.ev_c (Evl.rv_eq rfl))) fun _ => Evl.et_B (ev_def (Evl.ea_cons (Evl.ev_var rfl) Evl.ea_nil) fun H1 e1 => ⟨D, t, v1, rfl, Dq.same e1 q3, rfl⟩)) (fun hb H4 e4 => ?_) (fun _ H4 e4 => ?_)
    · rw [Bool.and_eq_true] at hb
      obtain ⟨j, rfl⟩ := isInt_iff hb.2
      have n4 := n3'.ex e4
      unfold Dq at q1
      subst q1
      refine s_retM (R := GS (.int j)) (mv_op (Ra := fun r => r = .int j) (Rc := fun r => ∃ k : Int, r = .int k ∧ k.natAbs ≤ 10) (mv_int n4.wd (Evl.ev_var rfl) rfl) (fun r v H5 _ _ n5 => ?_) fun r1 u1 r2 u2 H5 a1 ⟨k, a2, hk⟩ b1 b2 c Q2 q2 => ?_) fun r v H' a b c => fin r v H' a b (n4.trans c)
      · refine (mv_pickF n5.wd rfl (Evl.ea_cons Evl.ev_c (Evl.ea_cons (Evl.ev_un Evl.ev_c Evl.ru_neg) (Evl.ea_cons Evl.ev_c (Evl.ea_cons Evl.ev_c Evl.ea_nil)))) (by decide +kernel)).imp fun r ⟨v, hv, e⟩ => ?_
        simp only [List.mem_cons, List.not_mem_nil, or_false] at hv
        rcases hv with rfl | rfl | rfl | rfl
        · exact ⟨1, e, by decide⟩
        · exact ⟨-1, e, by decide⟩
        · exact ⟨2, e, by decide⟩
        · exact ⟨10, e, by decide⟩
      · subst a1 a2
        unfold Dq at b1 b2
        subst b1 b2
        exact ⟨j, k, rfl, rfl, q2 (.int (j + k)) _ H5 (gb_int (i := j) (j := j + k) (by omega)).gs (by unfold Dq; rfl) c.wd.nx0⟩
    have n4 := n3'.ex e4
    have q4 := (n3'.wd.ex e4).dq q3
    refine Evl.q_when (b := decide (V.int i = V.int 1) && isBl t) (Evl.et_and (Evl.et_test (Evl.ev_op (Evl.ev_var rfl) Evl.ev_c (Evl.rv_eq rfl))) fun _ => Evl.et_B (ev_isi (Evl.ev_var rfl) q4 (kb_bool t))) (fun hb H5 e5 => ?_) (fun _ H5 e5 => ?_)
    · rw [Bool.and_eq_true] at hb
      obtain ⟨j, rfl⟩ := isBl_iff hb.2
      have n5 := n4.ex e5
      unfold Dq at q1
      subst q1
      exact s_retM (R := GS (.bool j)) (mv_bl n5.wd (Evl.ev_notV (Evl.ev_var rfl)) (sm_fo (vs := [.bl (!j)]) rfl ⟨_, List.mem_singleton_self _, rfl⟩).gb.gs) fun r v H' a b c => fin r v H' a b (n5.trans c)
    have n5 := n4.ex e5
    have q5 := (n4.wd.ex e5).dq q4
    refine s_retM (R := GS t) (mv_if (b := decide (V.int i = V.int 2) && isTup t) n5.wd (Evl.et_and (Evl.et_test (Evl.ev_op (Evl.ev_var rfl) Evl.ev_c (Evl.rv_eq rfl))) fun _ => Evl.et_B (ev_isi (Evl.ev_var rfl) q5 (kb_tup t))) (fun hb H6 n6 _ => ?_) (fun hb H6 n6 _ => ?_)) fun r v H' a b c => fin r v H' a b (n5.trans c)
    · rw [Bool.and_eq_true] at hb
      obtain ⟨ds, rfl⟩ := isTup_iff hb.2
      have hlen : ds.length ≤ 1000 := by
        unfold Ok at hok
        omega
      refine mv_repA (A := fun es => es = ds) (B := fun k => 2 ≤ k ∧ k ≤ 13) (mv_var n6.wd rfl (n6.dq q5) ⟨ds, rfl, rfl⟩) (fun H7 n7 => ?_) fun es k ee ⟨k1, k2⟩ => ?_
      · refine (mv_pickF n7.wd rfl (Evl.ea_cons Evl.ev_c (Evl.ea_cons Evl.ev_c (Evl.ea_cons Evl.ev_c (Evl.ea_cons Evl.ev_c Evl.ea_nil)))) (by decide +kernel)).imp fun r ⟨v, hv, e⟩ => ?_
        simp only [List.mem_cons, List.not_mem_nil, or_false] at hv
        rcases hv with rfl | rfl | rfl | rfl
        · exact ⟨2, e, by decide, by decide⟩
        · exact ⟨3, e, by decide, by decide⟩
        · exact ⟨7, e, by decide, by decide⟩
        · exact ⟨13, e, by decide, by decide⟩
      · subst ee
        exact ⟨hlen, k1, by omega, gs_rep (by omega)⟩
    · exact mv_bent (k := 1) rfl (mv_var n6.wd rfl (n6.dq q5) rfl) (fun H7 n7 => mv_int n7.wd Evl.ev_c rfl) (Nat.le_refl _) hok (by omega) hI fun r h => h.gs
  · obtain ⟨ds, rfl, hne⟩ := hb rfl
    have hdp : PyData.depthAll ds + 1 ≤ n := hk
    obtain ⟨n', rfl⟩ : ∃ n', n = n' + 1 := ⟨n - 1, by omega⟩
    have esp := hsp n' rfl
    subst esp
    have hok2 := hok
    unfold Ok at hok2
    have hlen : ds.length ≤ 1000 := by omega
    have hpos : 0 < ds.length := List.length_pos_iff.mpr hne
    have n2' := n1.trans n2
    have q2 := n2.dq q1'
    refine q_mv (R := fun r => ∃ i : Int, r = .int i ∧ 0 ≤ i ∧ i < ds.length) (mv_draw rfl (mv_int n2'.wd (ev_lenD (Evl.ev_var rfl) q2 (.inr rfl)) rfl) (by omega) (by omega) fun i a b => ⟨i, rfl, a, b⟩) fun r v H3 ⟨i, er, i0, i1⟩ b n3 => ?_
    subst er
    unfold Dq at b
    subst b
    have n3' := n2'.trans n3
    have q3 := n3.dq q2
    have hi : i.toNat < ds.length := by omega
    have hx := List.getElem?_eq_getElem hi
    have hxo := okL_iff.mp hok2.2.2 _ (List.getElem_mem hi)
    have hxd := depth_mem (List.getElem_mem hi)
    refine s_retM (R := GS (.tuple ds)) (mv_instead (ds := ds) (i := i) (Ra := GS ds[i.toNat]) (mv_var n3'.wd rfl q3 rfl) (fun H4 n4 => mv_int n4.wd (Evl.ev_var rfl) rfl) (fun H4 n4 => ?_) i0 i1 (by omega) fun x hxg => gs_ins hx hxg) fun r v H' a b c => fin r v H' a b (n3'.trans c)
    exact mv_spoilt rfl (mv_ixE (mv_var n4.wd rfl (n4.dq q3) rfl) (fun H5 n5 => mv_int n5.wd (Evl.ev_var rfl) rfl) hx i0 rfl) (by omega) hxo hM hI fun r h => h
theorem ok_spoilt0 (F : Def K mg "_law_spoilt" (top 57) ["_law_deck_here", "_law_thing"]) : Cal P w K mg base 8 "_law_spoilt" (fun _ _ _ _ => False) :=
  Cal.of F sc_spoilt (fun _ _ _ _ h => h.elim) (fun _ _ _ _ _ _ _ _ _ _ h => h.elim)
theorem ok_spoilt (F : Def K mg "_law_spoilt" (top 57) ["_law_deck_here", "_law_thing"]) (B : Bl mg) (c_draw : Cal P w K mg base 1 "_law_draw" spDraw) (c_pick : Cal P w K mg base 2 "_law_pick" (spM PrePick PostPick)) (c_int : Cal P w K mg base 1 "_law_is_integer" (spV (R1 isInt))) (c_bent : Cal P w K mg base 8 "_law_bent" (spM (PreBent 1) PostBent)) (c_ins : Cal P w K mg base 1 "_law_instead" (spN PreIns PostIns)) :
    ∀ n, Cal P w K mg base (n + 9) "_law_spoilt" (spM (PreSp n) PostSp)
  | 0 => ok_spoilt1 F B c_draw c_pick c_int c_bent c_ins 8 (by decide) _ (ok_spoilt0 F) fun k e => by cases e
  | n + 1 => ok_spoilt1 F B c_draw c_pick c_int c_bent c_ins (n + 9) (by omega) _ (ok_spoilt F B c_draw c_pick c_int c_bent c_ins n) fun k e => by
    have : n = k := by omega
    rw [this]
end
end Al
namespace Al
open PySem PySem.Spec PyProof.Rows L2
open Evl (Ex Ev EvT EvA EvL EvU EvO SpV RV RC RCL)
variable {D : Ban} {d l : Addr} {H : Hp}
/-! ### shapes of what is drawn -/
def sh (z : Str) : Bool := decide (z.length ≤ 12) && z.cps.toList.all fun c => decide (c < 128)
def isSh : PyData → Bool
  | .str z => sh z
  | _ => false
def isPr : PyData → Bool
  | .tuple [.str a, .str b] => sh a && sh b
  | _ => false
def isRu : PyData → Bool
  | .tuple [.tuple cs, .str m, .bool _, .tuple ls, .int g] => decide (cs.length ≤ 2) && cs.all isSh && sh m && decide (ls.length ≤ 2) && ls.all isPr && decide (g.natAbs ≤ 100)
  | _ => false
def isSt : PyData → Bool
  | .tuple [.str e, .tuple rs] => sh e && decide (rs.length ≤ 3) && rs.all isRu
  | _ => false
def isUq : PyData → Bool
  | .tuple [.str m, .int g] => sh m && decide (g.natAbs ≤ 100)
  | _ => false
def isRo : PyData → Bool
  | .tuple [.tuple ss, .tuple us] => decide (1 ≤ ss.length) && decide (ss.length ≤ 5) && ss.all isSt && decide (1 ≤ us.length) && decide (us.length ≤ 16) && us.all isUq
  | _ => false
def isPro : PyData → Bool
  | .tuple [a, b] => isRo a && isRo b
  | _ => false
abbrev Is (p : PyData → Bool) (r : PyData) : Prop := p r = true
/-- a tuple of n such | a list -/
def Tn (p : PyData → Bool) (n : Nat) (r : PyData) : Prop := ∃ rs, r = .tuple rs ∧ AllR (Is p) n rs
theorem allR_all {p : PyData → Bool} {n : Nat} {rs : List PyData} (h : AllR (Is p) n rs) : rs.all p = true := List.all_eq_true.mpr h.2
theorem isRu_mk {cs ls : List PyData} {m : Str} {f : Bool} {g : Int} (h1 : cs.length ≤ 2) (h2 : cs.all isSh = true) (h3 : sh m = true) (h4 : ls.length ≤ 2) (h5 : ls.all isPr = true) (h6 : g.natAbs ≤ 100) : Is isRu (.tuple [.tuple cs, .str m, .bool f, .tuple ls, .int g]) := by
  show (decide (cs.length ≤ 2) && cs.all isSh && sh m && decide (ls.length ≤ 2) && ls.all isPr && decide (g.natAbs ≤ 100)) = true
  rw [decide_eq_true h1, h2, h3, decide_eq_true h4, h5, decide_eq_true h6]
  rfl
theorem isRu_iff {r : PyData} (h : Is isRu r) : ∃ cs m f ls g, r = .tuple [.tuple cs, .str m, .bool f, .tuple ls, .int g] ∧ cs.length ≤ 2 ∧ cs.all isSh = true ∧ sh m = true ∧ ls.length ≤ 2 ∧ ls.all isPr = true ∧ g.natAbs ≤ 100 := by
  unfold Is isRu at h
  split at h
  · next cs m f ls g =>
    simp only [Bool.and_eq_true, decide_eq_true_eq] at h
    exact ⟨cs, m, f, ls, g, rfl, h.1.1.1.1.1, h.1.1.1.1.2, h.1.1.1.2, h.1.1.2, h.1.2, h.2⟩
  · cases h
theorem isSt_mk {e : Str} {rs : List PyData} (h1 : sh e = true) (h2 : rs.length ≤ 3) (h3 : rs.all isRu = true) : Is isSt (.tuple [.str e, .tuple rs]) := by
  show (sh e && decide (rs.length ≤ 3) && rs.all isRu) = true
  rw [h1, decide_eq_true h2, h3]
  rfl
theorem isSt_iff {r : PyData} (h : Is isSt r) : ∃ e rs, r = .tuple [.str e, .tuple rs] ∧ sh e = true ∧ rs.length ≤ 3 ∧ rs.all isRu = true := by
  unfold Is isSt at h
  split at h
  · next e rs =>
    simp only [Bool.and_eq_true, decide_eq_true_eq] at h
    exact ⟨e, rs, rfl, h.1.1, h.1.2, h.2⟩
  · cases h
theorem isUq_mk {m : Str} {g : Int} (h1 : sh m = true) (h2 : g.natAbs ≤ 100) : Is isUq (.tuple [.str m, .int g]) := by
  show (sh m && decide (g.natAbs ≤ 100)) = true
  rw [h1, decide_eq_true h2]
  rfl
theorem isUq_iff {r : PyData} (h : Is isUq r) : ∃ m g, r = .tuple [.str m, .int g] ∧ sh m = true ∧ g.natAbs ≤ 100 := by
  unfold Is isUq at h
  split at h
  · next m g =>
    simp only [Bool.and_eq_true, decide_eq_true_eq] at h
    exact ⟨m, g, rfl, h.1, h.2⟩
  · cases h
theorem isPr_mk {a b : Str} (h1 : sh a = true) (h2 : sh b = true) : Is isPr (.tuple [.str a, .str b]) := by
  show (sh a && sh b) = true
  rw [h1, h2]
  rfl
theorem isRo_mk {ss us : List PyData} (h1 : 1 ≤ ss.length) (h2 : ss.length ≤ 5) (h3 : ss.all isSt = true) (h4 : 1 ≤ us.length) (h5 : us.length ≤ 16) (h6 : us.all isUq = true) : Is isRo (.tuple [.tuple ss, .tuple us]) := by
  show (decide (1 ≤ ss.length) && decide (ss.length ≤ 5) && ss.all isSt && decide (1 ≤ us.length) && decide (us.length ≤ 16) && us.all isUq) = true
  rw [decide_eq_true h1, decide_eq_true h2, h3, decide_eq_true h4, decide_eq_true h5, h6]
  rfl
theorem isRo_iff {r : PyData} (h : Is isRo r) : ∃ ss us, r = .tuple [.tuple ss, .tuple us] ∧ 1 ≤ ss.length ∧ ss.length ≤ 5 ∧ ss.all isSt = true ∧ 1 ≤ us.length ∧ us.length ≤ 16 ∧ us.all isUq = true := by
  unfold Is isRo at h
  split at h
  · next ss us =>
    simp only [Bool.and_eq_true, decide_eq_true_eq] at h
    exact ⟨ss, us, rfl, h.1.1.1.1.1, h.1.1.1.1.2, h.1.1.1.2, h.1.1.2, h.1.2, h.2⟩
  · cases h
theorem isPro_mk {a b : PyData} (h1 : Is isRo a) (h2 : Is isRo b) : Is isPro (.tuple [a, b]) := by
  show (isRo a && isRo b) = true
  rw [h1, h2]
  rfl
theorem isPro_iff {r : PyData} (h : Is isPro r) : ∃ a b, r = .tuple [a, b] ∧ Is isRo a ∧ Is isRo b := by
  unfold Is isPro at h
  split at h
  · next a b =>
    rw [Bool.and_eq_true] at h
    exact ⟨a, b, rfl, h.1, h.2⟩
  · cases h
theorem isSh_iff {r : PyData} (h : Is isSh r) : ∃ z, r = .str z ∧ sh z = true := by
  cases r <;> simp [Is, isSh] at h ⊢
  exact h
/-! ### more steps -/
section
variable {K : PySem.W.Frag} {σ : L2.St} {ta tb tc te tl : TE} {tA : TA} {t : TT} {x y z v : V} {R Ra Rc : PyData → Prop} {r : PyData} {E : XK} {Dn : Ends} {tu tz : TS}
theorem lw_at {p a : Addr} {i : Nat} {H0 H' : Hp} {o : HO} (w : Wd D d l H0) (hp : H0 p = none) (P : Lw D d l R H0 p i H') (na : ¬ D a) (ha : H0 a = some o) : H' a = some o :=
  P.1 a o (fun z => z.elim (fun z => na (w.sub a z)) fun e => by rw [e, hp] at ha; cases ha) ha
theorem mv_lcLC {C : Prop} {j : Nat} {vs : List Nat} {ds : List PyData} (hn : C → ds.length ≤ 40000) (h : Mv D d l tl σ H fun r => r = .list ds ∧ C) (hw : ∀ x, wipe ((wipe σ vs).set j (some x)) vs = wipe σ vs)
    (he : ∀ (i : Nat) x v p H0 H1, C → ds[i]? = some x → H0 p = none → Nx D d l H H0 → Lw D d l R H0 p i H1 → Dq (Bp D p) H1 x v → Mv (Bp D p) d l te ((wipe σ vs).set j (some v)) H1 R) :
    Mv D d l (tLc (iList K tl) (gName j) tYes te vs) σ H fun r => C ∧ ∃ es, r = .list es ∧ es.length = ds.length ∧ ∀ r ∈ es, R r := fun Q q =>
  h _ fun r v H0 ⟨e, hC⟩ b c => by
    subst e
    have b0 := b
    unfold Dq at b
    obtain ⟨a, xs, rfl, na, ha, hl⟩ := b
    refine ⟨a, rfl, ⟨xs, Evl.sq_of ha⟩, fun p hp => lc_list (xs := xs) (Lw D d l R H0 p) (lw0 c.wd hp) (fun i H1 _ P => Evl.sq_of (lw_at c.wd hp P na ha)) (fun i x H1 hi P => ?_) fun H1 P => ?_⟩
    · obtain ⟨dx, hdx, hq⟩ := hl.getV hi
      have hlt : i < xs.length := (List.getElem?_eq_some_iff.mp hi).1
      rw [hl.length] at hlt
      have hn' := hn hC
      exact ⟨hw _, he i dx x p H0 H1 hC hdx hp c P (P.dq c.wd hp hq) _ fun r v H2 a b n => lw_next c.wd hp P a b n (by omega)⟩
    · obtain ⟨n2, es, hq, hle, hr⟩ := lw_done c.wd hp P
      exact q _ _ H1 ⟨hC, es, rfl, by rw [← hl.length]; exact hle, hr⟩ hq (c.trans n2)
theorem mv_lcL {j : Nat} {vs : List Nat} {ds : List PyData} (hn : ds.length ≤ 40000) (h : Mv D d l tl σ H fun r => r = .list ds) (hw : ∀ x, wipe ((wipe σ vs).set j (some x)) vs = wipe σ vs)
    (he : ∀ (i : Nat) x v p H0 H1, ds[i]? = some x → H0 p = none → Nx D d l H H0 → Lw D d l R H0 p i H1 → Dq (Bp D p) H1 x v → Mv (Bp D p) d l te ((wipe σ vs).set j (some v)) H1 R) :
    Mv D d l (tLc (iList K tl) (gName j) tYes te vs) σ H fun r => ∃ es, r = .list es ∧ es.length = ds.length ∧ ∀ r ∈ es, R r :=
  (mv_lcLC (C := True) (fun _ => hn) (h.imp fun r e => ⟨e, trivial⟩) hw fun i x v p H0 H1 _ => he i x v p H0 H1).imp fun r h => h.2
theorem mv_splitIx {zz y a : Str} {k : Nat} (w : Wd D d l H) (h : Ev ta σ H (.str zz)) (hb : (y.length == 0) = false) (hz : zz.length ≤ 1000) (hk : (Txt.split zz y)[k]? = some a) (hR : R (.str a)) :
    Mv D d l (tOp (rIxL K) (tM1 (fun x xs H Q => ∃ a b, x = .str a ∧ xs = [.str b] ∧ (b.length == 0) = false ∧ a.length + 2 ≤ sizeLine ∧ rNewStrs (Txt.split a b) H Q) ta (tC (.str y))) (tC (.int (k : Int)))) σ H R := fun Q q =>
  h H (Ex.refl H) _ fun H1 e1 => ⟨⟨zz, rfl⟩, zz, y, rfl, rfl, hb, Evl.sz_of (by omega), fun p hp => ⟨p, (Txt.split zz y).map V.str, k, .str a, rfl, rfl, Evl.sq_of upd_same, atI_nat (by rw [List.getElem?_map, hk]; rfl), q _ _ _ hR (by unfold Dq; rfl) ((w.ex e1).ex (Ex.new hp))⟩⟩
theorem q_forR1M {n j : Nat} (hn : n ≤ 100000) (ha : MvA D d l tA σ H fun rs => ∃ i : Int, rs = [.int i] ∧ 0 ≤ i ∧ i ≤ n) (Pv : Nat → L2.St → Hp → Prop) (h0 : ∀ H1, Nx D d l H H1 → Pv 0 σ H1)
    (hs : ∀ (i : Nat) σ' H', i < n → Pv i σ' H' → tu { Dn with nx := Pv (i + 1), ct := Pv (i + 1), bk := tz Dn } (σ'.set j (some (.int (i : Int)))) H') (hd : ∀ i σ' H', i ≤ n → Pv i σ' H' → tz Dn σ' H') : tSeq (tFor (iRng1 tA) (gName j) tu) tz Dn σ H :=
  ha _ fun rs us H0 ⟨i, e, i0, i1⟩ b c => by
    subst e
    unfold DqL at b
    obtain ⟨x, s, rfl, bx, bs⟩ := b
    unfold DqL at bs
    unfold Dq at bx
    subst bs bx
    refine ⟨i, rfl, by omega, by omega, for_range (lo := 0) (n := i.toNat) Pv (h0 H0 c) (fun k σ' H' hk p => ?_) fun σ' H' p => hd _ σ' H' (by omega) p⟩
    have e0 : (0 : Int) + (k : Int) = (k : Int) := Int.zero_add _
    show tu { Dn with nx := Pv (k + 1), ct := Pv (k + 1), bk := tz Dn } (σ'.set j (some (.int ((0 : Int) + (k : Int))))) H'
    rw [e0]
    exact hs k σ' H' (by omega) p
/-- one more in the list at p -/
theorem s_appM {j i : Nat} {p : Addr} {H0 : Hp} (w : Wd D d l H0) (hp : H0 p = none) (P : Lw D d l R H0 p i H) (hi : i < 50000) (hσ : σ[j]? = some (some (.ref p))) (h : Mv (Bp D p) d l te σ H R) (k : ∀ H1, Lw D d l R H0 p (i + 1) H1 → Dn.nx σ H1) :
    tDrop (tBM K "list" rAppend (tVar j) (tCons te tNil)) Dn σ H := by
  obtain ⟨acc, ds, ha, hl, _⟩ := P.2.2
  refine ⟨.ref p, hσ, .inl ⟨rfl, _, Evl.sq_of ha⟩, h _ fun r v H1 hr hq n => ?_⟩
  obtain ⟨acc', ha', hz, P'⟩ := lw_next w hp P hr hq n hi
  exact ⟨p, acc', v, rfl, rfl, ha', hz, k _ P'⟩
theorem s_forGo {D0 : Ends} (h : tu D0 σ H) : tu D0 σ H := h
end
/-! ### `_law_rule` -/
def tSp0 (K : PySem.W.Frag) (i : Nat) (k : Int) : TE := tOp (rIxL K) (tM1 (fun x xs H Q => ∃ a b, x = .str a ∧ xs = [.str b] ∧ (b.length == 0) = false ∧ a.length + 2 ≤ sizeLine ∧ rNewStrs (Txt.split a b) H Q) (tVar i) (tC (.str " "))) (tC (.int k))
def ru2 (c m : Str) (ls : List Str) (g : Int) : Bool := decide (c.length ≤ 100) && decide (m.length ≤ 100) && decide ((Txt.split c " ").length ≤ 2) && (Txt.split c " ").all sh && sh (Txt.replace m "!" "") && decide (ls.length ≤ 2) && ls.all (fun z => decide (z.length ≤ 100) && (match (Txt.split z " ")[0]?, (Txt.split z " ")[1]? with | some a, some b => sh a && sh b | _, _ => false)) && decide (g.natAbs ≤ 100)
def PreRu (rs : List PyData) : Prop := ∃ c m ls g, rs = [.str c, .str m, .list (ls.map PyData.str), .int g] ∧ ru2 c m ls g = true
def PostRu (_ : List PyData) (r : PyData) : Prop := Is isRu r
section
variable {P : Program} {w : World} {K : PySem.W.Frag} {mg : Str → Option Value} {base : Heap}
theorem sc_rule_l : FnScope ["_law_cause", "_law_mark", "_law_letters", "_law_to", "_law_some", "_law_pairs", "_law_it"] ["_law_cause", "_law_mark", "_law_letters", "_law_to"] (defScope (top 50)) := ⟨rfl, rfl, rfl, by decide +kernel, rfl, by decide +kernel, by decide +kernel⟩
theorem ok_rule_l (F : Def K mg "_law_rule" (top 50) ["_law_cause", "_law_mark", "_law_letters", "_law_to"]) (B : Bl mg) : Cal P w K mg base 1 "_law_rule" (spN PreRu PostRu) := by
  refine Cal.of F sc_rule_l (lenN fun rs ⟨c, m, ls, g, er, _⟩ => by rw [er]; rfl) (fun f cdv A outer s H vs Q E hr h => ?_)
  refine ⟨_, (pss_asgT (i := 4) (pet_split (pv 0)) sc_rule_l.nd rfl (.inl rfl)
      (psst_cons (PST.of (ps_set (i := 5) sc_rule_l.nd rfl (.inl rfl) (pe_tupleOf (by rfl) B.tuple (pe_lc (own := [("_law_it", 6)]) (g := gName 6) (tt := tYes) (te := tTup (tCons (tSp0 K 6 0) (tCons (tSp0 K 6 1) tNil))) rfl sc_rule_l.nd (pi_list (pv 2)) (blkOk_by (N := ["_law_cause", "_law_mark", "_law_letters", "_law_to", "_law_some", "_law_pairs", "_law_it"]) (sc := defScope (top 50)) (by decide +kernel)) (fun _ _ _ _ _ => pg_name (i := 6) sc_rule_l.nd rfl (Or.inl rfl)) (fun _ _ _ _ _ => pts_nil)
        (fun _ _ _ _ _ => pe_tup (pa_cons (pe_ix ix_list (pe_split (pv 6) pe_str) pe_int (fun _ _ => rfl)) (pa_cons (pe_ix ix_list (pe_split (pv 6) pe_str) pe_int (fun _ _ => rfl)) pa_nil)))))))
      (CwR.psst_one (CwR.pst_ret (pet_tup (pat_cons (CwR.PET.of (pe_tupleOf (by rfl) B.tuple (pv 4))) (pat_cons (CwR.pet_replC (pv 1)) (pat_cons (CwR.PET.of (pe_cmpR op_eq (pe_slice sl_str (pv 1) po_none (po_some pe_int)) pe_str (nomark _))) (pat_cons (CwR.PET.of (pv 5)) (pat_cons (CwR.PET.of (pv 3)) pat_nil)))))))))), ?_⟩
  obtain ⟨D, d, l, rs, hw, hq, ⟨c, m, ls, g, rfl, hok⟩, q⟩ := h
  unfold ru2 at hok
  simp only [Bool.and_eq_true, decide_eq_true_eq] at hok
  obtain ⟨⟨⟨⟨⟨⟨⟨k1, k2⟩, k3⟩, k4⟩, k5⟩, k6⟩, k7⟩, k8⟩ := hok
  unfold DqL at hq
  obtain ⟨v1, s1, rfl, q1, hq⟩ := hq
  unfold DqL at hq
  obtain ⟨v2, s2, rfl, q2, hq⟩ := hq
  unfold DqL at hq
  obtain ⟨v3, s3, rfl, q3, hq⟩ := hq
  unfold DqL at hq
  obtain ⟨v4, s4, rfl, q4, hq⟩ := hq
  unfold DqL at hq
  subst hq
  have q1' := q1
  have q2' := q2
  have q4' := q4
  unfold Dq at q1' q2' q4'
  subst q1' q2' q4'
  refine q_mv (R := fun r => r = .list ((Txt.split c " ").map PyData.str)) (fun Q1 w1 => ⟨_, rfl, ⟨c, rfl⟩, c, " ", rfl, rfl, by decide +kernel, Evl.sz_of (by omega), fun p hp => w1 _ _ _ rfl (dq_newL hw hp (DqL.strs _)) (hw.new hp _)⟩) fun r v H1 er b1 n1 => ?_
  subst er
  refine q_mv (R := fun r => ∃ es, r = .tuple es ∧ es.length ≤ 2 ∧ ∀ x ∈ es, Is isPr x) (mv_tupOf ((mv_lcL (K := K) (ds := ls.map PyData.str) (R := Is isPr) (by rw [List.length_map]; omega) (mv_var n1.wd rfl (n1.dq q3) rfl) (fun x => rfl) fun i x v p H0 H2 hi hp n0 P hx => ?_).imp fun r ⟨es, e, hle, hr⟩ => ⟨es, .inl e, es, rfl, by rw [List.length_map] at hle; omega, hr⟩)) fun r v H2 ⟨es, er, hle, hes⟩ b2 n2 => ?_
  · rw [List.getElem?_map] at hi
    cases hz : ls[i]? with
    | none => rw [hz] at hi; cases hi
    | some z =>
      rw [hz] at hi
      have hi : PyData.str z = x := Option.some.inj hi
      subst hi
      unfold Dq at hx
      subst hx
      have hk := List.all_eq_true.mp k7 z (List.mem_of_getElem? hz)
      rw [Bool.and_eq_true] at hk
      have hk1 := of_decide_eq_true hk.1
      have hk2 := hk.2
      split at hk2
      · next a b ea eb =>
        rw [Bool.and_eq_true] at hk2
        refine mv_tup (mva_cons (Ra := fun r => r = .str a) (mv_splitIx (k := 0) P.2.1 (Evl.ev_var rfl) (by decide +kernel) (by omega) ea rfl) fun r v H3 er _ n3 => ?_)
        subst er
        exact mva_one (mv_splitIx (k := 1) n3.wd (Evl.ev_var rfl) (by decide +kernel) (by omega) eb ⟨by show 2 ≤ 100000; decide, isPr_mk hk2.1 hk2.2⟩)
      · cases hk2
  · subst er
    have n2' := n1.trans n2
    refine s_retM (R := Is isRu) (mv_tup ?_) fun r v H' a b c => q r v H' a b (n2'.trans c)
    refine mva_cons (Ra := fun r => r = .tuple ((Txt.split c " ").map PyData.str)) (mv_tupOf (mv_var n2'.wd rfl (n2.dq b1) ⟨_, .inl rfl, rfl⟩)) fun r v H3 er _ n3 => ?_
    subst er
    refine mva_cons (Ra := fun r => r = .str (Txt.replace m "!" "")) (fun Q1 w1 => ⟨_, rfl, m, rfl, by show m.length + (m.length + 1) * 0 ≤ 16777216; omega, w1 _ _ _ rfl (by unfold Dq; rfl) n3.wd.nx0⟩) fun r v H4 er _ n4 => ?_
    subst er
    refine mva_cons (Ra := fun r => ∃ f, r = .bool f) (mv_bl n4.wd (Evl.ev_op (x := .str (cutS m none (some 1))) (fun H1 e Q q => ⟨_, rfl, _, rfl, m, rfl, Evl.sz_of (by omega), q H1 (Ex.refl H1)⟩) Evl.ev_c (Evl.rv_eq rfl)) ⟨_, rfl⟩) fun r v H5 ⟨f, er⟩ _ n5 => ?_
    subst er
    refine mva_cons (Ra := fun r => r = .tuple es) (mv_var n5.wd rfl (((n3.trans n4).trans n5).dq b2) rfl) fun r v H6 er _ n6 => ?_
    subst er
    refine mva_one (mv_int n6.wd (Evl.ev_var rfl) ⟨by show 5 ≤ 100000; decide, isRu_mk (by rw [List.length_map]; exact k3) ?_ k5 hle (List.all_eq_true.mpr hes) k8⟩)
    rw [List.all_map]
    exact k4
end
end Al
namespace Al
open PySem PySem.Spec PyProof.Rows L2
open Evl (Ex Ev EvT EvA EvL EvU EvO SpV RV RC RCL)
variable {D : Ban} {d l : Addr} {H : Hp}
section
variable {K : PySem.W.Frag} {σ : L2.St} {ta tb tc te tl tm : TE} {tA : TA} {t : TT} {x y z v : V} {R Ra Rb : PyData → Prop} {r : PyData} {E : XK} {Dn : Ends} {tu tz : TS}
theorem mv_tupC {p : PyData → Bool} {n : Nat} (h : MvA D d l tA σ H (AllR (Is p) n)) (hn : n ≤ 100000) : Mv D d l (tTup tA) σ H (Tn p n) := mv_tup (h.imp fun rs a => ⟨by rw [a.1]; exact hn, rs, rfl, a⟩)
theorem mv_catTn {p : PyData → Bool} {n m : Nat} (h1 : Mv D d l ta σ H (Tn p n)) (h2 : ∀ H1, Nx D d l H H1 → Mv D d l tb σ H1 (Tn p m)) (hn : n + m ≤ 100000) : Mv D d l (tOp (rCatA K) ta tb) σ H (Tn p (n + m)) :=
  mv_catA (A := AllR (Is p) n) (B := AllR (Is p) m) h1 h2 fun ds es a b => ⟨by rw [a.1, b.1]; exact hn, ds ++ es, rfl, by rw [List.length_append, a.1, b.1], fun r hr => (List.mem_append.mp hr).elim (a.2 r) (b.2 r)⟩
theorem mv_stV {e : Str} {n : Nat} (w : Wd D d l H) (hs : sh e = true) (h : ∀ H1, Nx D d l H H1 → Mv D d l tb σ H1 (Tn isRu n)) (hn : n ≤ 3) : Mv D d l (tTup (tCons (tC (.str e)) (tCons tb tNil))) σ H (Is isSt) :=
  mv_tup (mva_cons (Ra := fun r => r = .str e) (mv_str w Evl.ev_c rfl) fun r v H1 er _ n1 => mva_one ((h H1 n1).imp fun r2 ⟨rs, e2, a⟩ => by
    subst er e2
    exact ⟨by show 2 ≤ 100000; decide, isSt_mk hs (by rw [a.1]; exact hn) (allR_all a)⟩))
theorem mv_upC {m : Str} {g : Int} (w : Wd D d l H) (h : (sh m && decide (g.natAbs ≤ 100)) = true) : Mv D d l (tTup (tCons (tC (.str m)) (tCons (tC (.int g)) tNil))) σ H (Is isUq) :=
  mv_tup (mva_cons (Ra := fun r => r = .str m) (mv_str w Evl.ev_c rfl) fun r v H1 er _ n1 => mva_one (mv_int n1.wd Evl.ev_c (by
    subst er
    exact ⟨by show 2 ≤ 100000; decide, h⟩)))
theorem mv_roP {n m : Nat} (h1 : Mv D d l ta σ H (Tn isSt n)) (h2 : ∀ H1, Nx D d l H H1 → Mv D d l tb σ H1 (Tn isUq m)) (n1 : 1 ≤ n) (n2 : n ≤ 5) (m1 : 1 ≤ m) (m2 : m ≤ 16) : Mv D d l (tTup (tCons ta (tCons tb tNil))) σ H (Is isRo) :=
  mv_tup (mva_cons h1 fun r v H1 ⟨ss, es, as⟩ _ nx => mva_one ((h2 H1 nx).imp fun r2 ⟨us, eu, au⟩ => by
    subst es eu
    exact ⟨by show 2 ≤ 100000; decide, isRo_mk (by rw [as.1]; exact n1) (by rw [as.1]; exact n2) (allR_all as) (by rw [au.1]; exact m1) (by rw [au.1]; exact m2) (allR_all au)⟩))
theorem mv_proP (h1 : Mv D d l ta σ H (Is isRo)) (h2 : ∀ H1, Nx D d l H H1 → Mv D d l tb σ H1 (Is isRo)) : Mv D d l (tTup (tCons ta (tCons tb tNil))) σ H (Is isPro) :=
  mv_tup (mva_cons h1 fun r v H1 a _ nx => mva_one ((h2 H1 nx).imp fun r2 b => ⟨by show 2 ≤ 100000; decide, isPro_mk a b⟩))
theorem mv_ruleG {c m : Str} {ls : List Str} {g : Int} (w : Wd D d l H) (hm : ∀ H1, Nx D d l H H1 → Mv D d l tm σ H1 fun r => r = .str m) (hl : ∀ H1, Nx D d l H H1 → Mv D d l tl σ H1 fun r => r = .list (ls.map PyData.str)) (ok : ru2 c m ls g = true) :
    Mv D d l (tCall (spN PreRu PostRu) [] E (tCons (tC (.str c)) (tCons tm (tCons tl (tCons (tC (.int g)) tNil))))) σ H (Is isRu) :=
  mv_callN (Rs := fun rs => rs = [.str c, .str m, .list (ls.map PyData.str), .int g]) (mva_cons (Ra := fun r => r = .str c) (mv_str w Evl.ev_c rfl) fun r v H1 er _ n1 => mva_cons (hm H1 n1) fun r2 v2 H2 er2 _ n2 => mva_cons (hl H2 (n1.trans n2)) fun r3 v3 H3 er3 _ n3 => mva_one (mv_int n3.wd Evl.ev_c (by rw [er, er2, er3]))) fun rs e => ⟨⟨c, m, ls, g, e, ok⟩, fun r h => h⟩
theorem ev_catS {a b : Str} (h : Ev ta σ H (.str a)) (hz : a.length + b.length ≤ sizeLine) : Ev (tOp (fun x y H Q => ∃ i j, x = .str i ∧ y = .str j ∧ i.length + j.length ≤ sizeLine ∧ Q (.str (i ++ j)) H) ta (tC (.str b))) σ H (.str (a ++ b)) :=
  Evl.ev_op h Evl.ev_c fun H1 e Q q => ⟨a, b, rfl, rfl, hz, q H1 (Ex.refl H1)⟩
theorem q_two {i j : Nat} (h1 : Mv D d l ta σ H Ra) (h2 : ∀ H1, Nx D d l H H1 → Mv D d l tb σ H1 Rb) (k : ∀ r1 r2 v1 v2 H', Ra r1 → Rb r2 → Dq D H' r1 v1 → Dq D H' r2 v2 → Nx D d l H H' → tz Dn ((σ.set i (some v1)).set j (some v2)) H') :
    tSeq (tPar i j (tCons ta (tCons tb tNil))) tz Dn σ H :=
  h1 _ fun r1 v1 H1 a1 b1 n1 => h2 H1 n1 _ fun r2 v2 H2 a2 b2 n2 => ⟨v1, v2, rfl, k r1 r2 v1 v2 _ a1 a2 (n2.dq b1) b2 (n1.trans n2)⟩
end
def PreKn (rs : List PyData) : Prop := ∃ z : Str, rs = [.str z]
def PostPro (_ : List PyData) (r : PyData) : Prop := Is isPro r
section
variable {P : Program} {w : World} {K : PySem.W.Frag} {mg : Str → Option Value} {base : Heap}
theorem sc_known : FnScope ["_law_word", "_law_first", "_law_other", "_law_ends", "_law_leader", "_law_sign", "_law_drop", "_law_second", "_law_third", "_law_fourth", "_law_no", "_law_states"] ["_law_word"] (defScope (top 51)) := ⟨rfl, rfl, rfl, by decide +kernel, rfl, by decide +kernel, by decide +kernel⟩
set_option maxHeartbeats 4000000 in
theorem ok_known (F : Def K mg "_law_known" (top 51) ["_law_word"]) (c_rule : Cal P w K mg base 1 "_law_rule" (spN PreRu PostRu)) : Cal P w K mg base 2 "_law_known" (spN PreKn PostPro) := by
  refine Cal.of F sc_known (lenN fun rs ⟨z, er⟩ => by rw [er]; rfl) (fun f cdv A outer s H vs Q E hr h => ?_)
  refine ⟨_, (pss_cons (ps_if (pt_cmpR op_eq (pv 0) pe_str (nomark _)) (pss_cons (ps_set (i := 1) sc_known.nd rfl (.inl rfl) (pe_tup (pa_cons (pcall c_rule hr (pa_cons pe_str (pa_cons pe_str (pa_cons (pe_lst (pa_cons pe_str pa_nil)) (pa_cons pe_int pa_nil))))) (pa_cons (pcall c_rule hr (pa_cons pe_str (pa_cons pe_str (pa_cons (pe_lst (pa_cons pe_str pa_nil)) (pa_cons pe_int pa_nil))))) pa_nil))))
      (pss_cons (ps_set (i := 2) sc_known.nd rfl (.inl rfl) (pe_tup (pa_cons (pcall c_rule hr (pa_cons pe_str (pa_cons pe_str (pa_cons (pe_lst pa_nil) (pa_cons pe_int pa_nil))))) (pa_cons (pcall c_rule hr (pa_cons pe_str (pa_cons pe_str (pa_cons (pe_lst pa_nil) (pa_cons pe_int pa_nil))))) (pa_cons (pcall c_rule hr (pa_cons pe_str (pa_cons pe_str (pa_cons (pe_lst pa_nil) (pa_cons pe_int pa_nil))))) pa_nil)))))
      (pss_cons (ps_set (i := 3) sc_known.nd rfl (.inl rfl) (pe_tup (pa_cons (pe_tup (pa_cons pe_str (pa_cons (pe_tup pa_nil) pa_nil))) (pa_cons (pe_tup (pa_cons pe_str (pa_cons (pe_tup pa_nil) pa_nil))) pa_nil))))
      (pss_cons (ps_set (i := 4) sc_known.nd rfl (.inl rfl) (pe_tup (pa_cons (pe_op op_catA (pe_tup (pa_cons (pe_tup (pa_cons pe_str (pa_cons (pv 1) pa_nil))) pa_nil)) (pv 3)) (pa_cons (pe_tup (pa_cons (pe_tup (pa_cons pe_str (pa_cons pe_int pa_nil))) (pa_cons (pe_tup (pa_cons pe_str (pa_cons pe_int pa_nil))) (pa_cons (pe_tup (pa_cons pe_str (pa_cons pe_int pa_nil))) pa_nil)))) pa_nil))))
      (pss_one (ps_ret (pe_tup (pa_cons (pv 4) (pa_cons (pe_tup (pa_cons (pe_op op_catA (pe_tup (pa_cons (pe_tup (pa_cons pe_str (pa_cons (pv 2) pa_nil))) pa_nil)) (pv 3)) (pa_cons (pe_tup (pa_cons (pe_tup (pa_cons pe_str (pa_cons pe_int pa_nil))) (pa_cons (pe_tup (pa_cons pe_str (pa_cons pe_int pa_nil))) (pa_cons (pe_tup (pa_cons pe_str (pa_cons pe_int pa_nil))) pa_nil)))) pa_nil))) pa_nil))))))))) pss_nil)
      (pss_cons (ps_set (i := 5) sc_known.nd rfl (.inl rfl) (pe_ifExp (pt_cmpR op_eq (pv 0) pe_str (nomark _)) pe_str pe_str))
      (pss_cons (ps_set (i := 6) sc_known.nd rfl (.inl rfl) (pe_tup (pa_cons (pe_op op_add_str (pv 5) pe_str) (pa_cons (pe_lst (pa_cons pe_str pa_nil)) (pa_cons pe_int pa_nil)))))
      (pss_cons (ps_set (i := 1) sc_known.nd rfl (.inl rfl) (pe_tup (pa_cons (pcall c_rule hr (pa_cons pe_str (pa_cons pe_str (pa_cons (pe_lst (pa_cons pe_str pa_nil)) (pa_cons pe_int pa_nil))))) (pa_cons (pcall c_rule hr (pa_cons pe_str (pa_cons (pe_ix ix_tup (pv 6) pe_int (fun _ _ => rfl)) (pa_cons (pe_ix ix_tup (pv 6) pe_int (fun _ _ => rfl)) (pa_cons pe_int pa_nil))))) pa_nil))))
      (pss_cons (ps_set (i := 7) sc_known.nd rfl (.inl rfl) (pe_tup (pa_cons (pcall c_rule hr (pa_cons pe_str (pa_cons (pe_op op_add_str (pv 5) pe_str) (pa_cons (pe_lst (pa_cons pe_str pa_nil)) (pa_cons pe_int pa_nil))))) (pa_cons (pcall c_rule hr (pa_cons pe_str (pa_cons (pe_ix ix_tup (pv 6) pe_int (fun _ _ => rfl)) (pa_cons (pe_ix ix_tup (pv 6) pe_int (fun _ _ => rfl)) (pa_cons pe_int pa_nil))))) pa_nil))))
      (pss_cons (ps_set (i := 7) sc_known.nd rfl (.inl rfl) (pe_op op_catA (pv 7) (pe_tup (pa_cons (pcall c_rule hr (pa_cons pe_str (pa_cons (pe_ix ix_tup (pv 6) pe_int (fun _ _ => rfl)) (pa_cons (pe_ix ix_tup (pv 6) pe_int (fun _ _ => rfl)) (pa_cons pe_int pa_nil))))) pa_nil))))
      (pss_cons (ps_par (i := 8) (j := 9) rfl sc_known.nd rfl rfl (by decide) rfl rfl (pa_cons (pe_tup (pa_cons (pcall c_rule hr (pa_cons pe_str (pa_cons pe_str (pa_cons (pe_lst (pa_cons pe_str pa_nil)) (pa_cons pe_int pa_nil))))) pa_nil)) (pa_cons (pe_tup (pa_cons (pcall c_rule hr (pa_cons pe_str (pa_cons pe_str (pa_cons (pe_lst (pa_cons pe_str pa_nil)) (pa_cons pe_int pa_nil))))) pa_nil)) pa_nil)) (by rfl))
      (pss_cons (ps_set (i := 4) sc_known.nd rfl (.inl rfl) (pe_tup (pa_cons (pe_tup (pa_cons (pe_tup (pa_cons pe_str (pa_cons (pv 1) pa_nil))) (pa_cons (pe_tup (pa_cons pe_str (pa_cons (pv 7) pa_nil))) (pa_cons (pe_tup (pa_cons pe_str (pa_cons (pv 8) pa_nil))) (pa_cons (pe_tup (pa_cons pe_str (pa_cons (pv 9) pa_nil))) pa_nil))))) (pa_cons (pe_tup (pa_cons (pe_tup (pa_cons pe_str (pa_cons pe_int pa_nil))) (pa_cons (pe_tup (pa_cons pe_str (pa_cons pe_int pa_nil))) (pa_cons (pe_tup (pa_cons pe_str (pa_cons pe_int pa_nil))) pa_nil)))) pa_nil))))
      (pss_cons (ps_set (i := 10) sc_known.nd rfl (.inl rfl) (pcall c_rule hr (pa_cons pe_str (pa_cons (pe_op op_add_str (pv 5) pe_str) (pa_cons (pe_lst (pa_cons pe_str pa_nil)) (pa_cons pe_int pa_nil))))))
      (pss_cons (ps_set (i := 1) sc_known.nd rfl (.inl rfl) (pe_tup (pa_cons (pcall c_rule hr (pa_cons pe_str (pa_cons pe_str (pa_cons (pe_lst pa_nil) (pa_cons pe_int pa_nil))))) (pa_cons (pv 10) pa_nil))))
      (pss_cons (ps_set (i := 7) sc_known.nd rfl (.inl rfl) (pe_tup (pa_cons (pcall c_rule hr (pa_cons pe_str (pa_cons (pe_op op_add_str (pv 5) pe_str) (pa_cons (pe_lst (pa_cons pe_str pa_nil)) (pa_cons pe_int pa_nil))))) (pa_cons (pv 10) pa_nil))))
      (pss_cons (ps_set (i := 8) sc_known.nd rfl (.inl rfl) (pe_tup (pa_cons (pcall c_rule hr (pa_cons pe_str (pa_cons (pe_op op_add_str (pv 5) pe_str) (pa_cons (pe_lst pa_nil) (pa_cons pe_int pa_nil))))) (pa_cons (pcall c_rule hr (pa_cons pe_str (pa_cons (pe_op op_add_str (pv 5) pe_str) (pa_cons (pe_lst pa_nil) (pa_cons pe_int pa_nil))))) (pa_cons (pcall c_rule hr (pa_cons pe_str (pa_cons pe_str (pa_cons (pe_lst (pa_cons pe_str pa_nil)) (pa_cons pe_int pa_nil))))) pa_nil)))))
      (pss_cons (ps_set (i := 11) sc_known.nd rfl (.inl rfl) (pe_tup (pa_cons (pe_tup (pa_cons pe_str (pa_cons (pv 1) pa_nil))) (pa_cons (pe_tup (pa_cons pe_str (pa_cons (pv 7) pa_nil))) (pa_cons (pe_tup (pa_cons pe_str (pa_cons (pv 8) pa_nil))) (pa_cons (pe_tup (pa_cons pe_str (pa_cons (pe_tup pa_nil) pa_nil))) (pa_cons (pe_tup (pa_cons pe_str (pa_cons (pe_tup pa_nil) pa_nil))) pa_nil)))))))
      (pss_one (ps_ret (pe_tup (pa_cons (pv 4) (pa_cons (pe_tup (pa_cons (pv 11) (pa_cons (pe_tup (pa_cons (pe_tup (pa_cons pe_str (pa_cons pe_int pa_nil))) (pa_cons (pe_tup (pa_cons pe_str (pa_cons pe_int pa_nil))) (pa_cons (pe_tup (pa_cons pe_str (pa_cons pe_int pa_nil))) (pa_cons (pe_tup (pa_cons pe_str (pa_cons pe_int pa_nil))) pa_nil))))) pa_nil))) pa_nil)))))))))))))))))), ?_⟩
  obtain ⟨D, d, l, rs, hw, hq, ⟨word, rfl⟩, q⟩ := h
  unfold DqL at hq
  obtain ⟨v1, s1, rfl, q1, hq⟩ := hq
  unfold DqL at hq
  subst hq
  unfold Dq at q1
  subst q1
  have fin : ∀ r v H', Is isPro r → Dq D H' r v → Nx D d l H H' → Q v H' := fun r v H' a b c => q r v H' a b c
  refine Evl.q_when (b := decide (V.str word = V.str "oneround")) (Evl.et_test (Evl.ev_op (Evl.ev_var rfl) Evl.ev_c (Evl.rv_eq rfl))) (fun _ H1 e1 => ?_) (fun _ H1 e1 => ?_)
  · have N := hw.ex e1
    refine q_mv (mv_tupC (mva_allC (mv_ruleG (c := "able") (m := "!kept") (ls := ["keep members"]) (g := 1) N.wd (fun h5 m3 => (mv_str m3.wd Evl.ev_c rfl)) (fun h6 m4 => (mv_lst (mva_flt m4.wd (Evl.ea_cons Evl.ev_c Evl.ea_nil) rfl ⟨by show 1 ≤ 100000; decide, rfl⟩))) (by decide +kernel)) fun h2 m1 => (mva_allC (mv_ruleG (c := "unable") (m := "!dropped") (ls := ["drop members"]) (g := 2) m1.wd (fun h11 m9 => (mv_str (m1.trans m9).wd Evl.ev_c rfl)) (fun h12 m10 => (mv_lst (mva_flt (m1.trans m10).wd (Evl.ea_cons Evl.ev_c Evl.ea_nil) rfl ⟨by show 1 ≤ 100000; decide, rfl⟩))) (by decide +kernel)) fun h8 m7 => (mva_allN (m1.trans m7).wd))) (by decide)) fun r_first v_first G e_first b_first n => ?_
    replace N := N.trans n
    clear n
    refine q_mv (mv_tupC (mva_allC (mv_ruleG (c := "some keep") (m := "!kept") (ls := []) (g := 1) N.wd (fun h17 m15 => (mv_str m15.wd Evl.ev_c rfl)) (fun h18 m16 => (mv_lst (mva_flt m16.wd Evl.ea_nil rfl ⟨by show 0 ≤ 100000; decide, rfl⟩))) (by decide +kernel)) fun h14 m13 => (mva_allC (mv_ruleG (c := "some drop") (m := "!dropped") (ls := []) (g := 2) m13.wd (fun h23 m21 => (mv_str (m13.trans m21).wd Evl.ev_c rfl)) (fun h24 m22 => (mv_lst (mva_flt (m13.trans m22).wd Evl.ea_nil rfl ⟨by show 0 ≤ 100000; decide, rfl⟩))) (by decide +kernel)) fun h20 m19 => (mva_allC (mv_ruleG (c := "unable") (m := "!dropped") (ls := []) (g := 2) (m13.trans m19).wd (fun h29 m27 => (mv_str ((m13.trans m19).trans m27).wd Evl.ev_c rfl)) (fun h30 m28 => (mv_lst (mva_flt ((m13.trans m19).trans m28).wd Evl.ea_nil rfl ⟨by show 0 ≤ 100000; decide, rfl⟩))) (by decide +kernel)) fun h26 m25 => (mva_allN ((m13.trans m19).trans m25).wd)))) (by decide)) fun r_other v_other G e_other b_other n => ?_
    replace b_first := n.dq b_first
    replace N := N.trans n
    clear n
    refine q_mv (mv_tupC (mva_allC (mv_stV N.wd (by decide +kernel) (fun h34 m33 => (mv_tupC (mva_allN m33.wd) (by decide))) (by decide)) fun h32 m31 => (mva_allC (mv_stV m31.wd (by decide +kernel) (fun h38 m37 => (mv_tupC (mva_allN (m31.trans m37).wd) (by decide))) (by decide)) fun h36 m35 => (mva_allN (m31.trans m35).wd))) (by decide)) fun r_ends v_ends G e_ends b_ends n => ?_
    replace b_first := n.dq b_first
    replace b_other := n.dq b_other
    replace N := N.trans n
    clear n
    refine q_mv (mv_roP (mv_catTn (mv_tupC (mva_allC (mv_stV N.wd (by decide +kernel) (fun h46 m45 => (mv_var m45.wd rfl (m45.dq b_first) e_first)) (by decide)) fun h44 m43 => (mva_allN m43.wd)) (by decide)) (fun h42 m41 => (mv_var m41.wd rfl (m41.dq b_ends) e_ends)) (by decide)) (fun h40 m39 => (mv_tupC (mva_allC (mv_upC m39.wd (by decide +kernel)) fun h48 m47 => (mva_allC (mv_upC (m39.trans m47).wd (by decide +kernel)) fun h50 m49 => (mva_allC (mv_upC ((m39.trans m47).trans m49).wd (by decide +kernel)) fun h52 m51 => (mva_allN (((m39.trans m47).trans m49).trans m51).wd)))) (by decide))) (by decide) (by decide) (by decide) (by decide)) fun r_leader v_leader G e_leader b_leader n => ?_
    replace b_first := n.dq b_first
    replace b_other := n.dq b_other
    replace b_ends := n.dq b_ends
    replace N := N.trans n
    clear n
    exact s_retM (mv_proP (mv_var N.wd rfl b_leader e_leader) (fun h54 m53 => (mv_roP (mv_catTn (mv_tupC (mva_allC (mv_stV m53.wd (by decide +kernel) (fun h62 m61 => (mv_var (m53.trans m61).wd rfl ((m53.trans m61).dq b_other) e_other)) (by decide)) fun h60 m59 => (mva_allN (m53.trans m59).wd)) (by decide)) (fun h58 m57 => (mv_var (m53.trans m57).wd rfl ((m53.trans m57).dq b_ends) e_ends)) (by decide)) (fun h56 m55 => (mv_tupC (mva_allC (mv_upC (m53.trans m55).wd (by decide +kernel)) fun h64 m63 => (mva_allC (mv_upC ((m53.trans m55).trans m63).wd (by decide +kernel)) fun h66 m65 => (mva_allC (mv_upC (((m53.trans m55).trans m63).trans m65).wd (by decide +kernel)) fun h68 m67 => (mva_allN ((((m53.trans m55).trans m63).trans m65).trans m67).wd)))) (by decide))) (by decide) (by decide) (by decide) (by decide)))) fun r v H' a b c => fin r v H' a b (N.trans c)
  have N := hw.ex e1
  refine q_mv (R := fun r => ∃ sg, r = .str sg ∧ (sg = "!" ∨ sg = "")) (mv_if N.wd (b := decide (V.str word = V.str "tworounds")) (Evl.et_test (Evl.ev_op (Evl.ev_var rfl) Evl.ev_c (Evl.rv_eq rfl))) (fun _ _ m _ => mv_str m.wd Evl.ev_c ⟨_, rfl, .inl rfl⟩) (fun _ _ m _ => mv_str m.wd Evl.ev_c ⟨_, rfl, .inr rfl⟩)) fun r v G ⟨sg, er, hs⟩ b n => ?_
  subst er
  unfold Dq at b
  subst b
  have hsl : sg.length ≤ 1 := by rcases hs with rfl | rfl <;> decide +kernel
  have hcat : ∀ z : Str, z.length ≤ 50 → sg.length + z.length ≤ sizeLine := fun z hz => Evl.sz_of (by omega)
  replace N := N.trans n
  clear n
  refine q_mv (R := fun r => r = .tuple [.str (sg ++ "dropped"), .list [.str "drop members"], .int 3]) (mv_tup (mva_cons (Ra := fun r => r = .str (sg ++ "dropped")) (mv_str N.wd (ev_catS (Evl.ev_var rfl) (hcat "dropped" (by decide +kernel))) rfl) fun r v G1 er _ m1 => by subst er; exact mva_cons (Ra := fun r => r = .list [.str "drop members"]) (mv_lst (mva_flt m1.wd (Evl.ea_cons Evl.ev_c Evl.ea_nil) rfl ⟨by show 1 ≤ 100000; decide, rfl⟩)) fun r v G2 er _ m2 => by subst er; exact mva_one (mv_int m2.wd Evl.ev_c ⟨by show 3 ≤ 100000; decide, rfl⟩))) fun r v_drop G er b_drop n => ?_
  subst er
  replace N := N.trans n
  clear n
  refine q_mv (mv_tupC (mva_allC (mv_ruleG (c := "able") (m := "") (ls := ["ask members"]) (g := 1) N.wd (fun h75 m73 => (mv_str m73.wd Evl.ev_c rfl)) (fun h76 m74 => (mv_lst (mva_flt m74.wd (Evl.ea_cons Evl.ev_c Evl.ea_nil) rfl ⟨by show 1 ≤ 100000; decide, rfl⟩))) (by rcases hs with rfl | rfl <;> decide +kernel)) fun h72 m71 => (mva_allC (mv_ruleG (c := "unable") (m := (sg ++ "dropped")) (ls := ["drop members"]) (g := 3) m71.wd (fun h81 m79 => (mv_ixE (ds := [.str (sg ++ "dropped"), .list [.str "drop members"], .int 3]) (i := 0) (mv_var (m71.trans m79).wd rfl ((m71.trans m79).dq b_drop) rfl) (fun _ m => mv_int m.wd Evl.ev_c rfl) rfl (by decide) rfl)) (fun h82 m80 => (mv_ixE (ds := [.str (sg ++ "dropped"), .list [.str "drop members"], .int 3]) (i := 1) (mv_var (m71.trans m80).wd rfl ((m71.trans m80).dq b_drop) rfl) (fun _ m => mv_int m.wd Evl.ev_c rfl) rfl (by decide) rfl)) (by rcases hs with rfl | rfl <;> decide +kernel)) fun h78 m77 => (mva_allN (m71.trans m77).wd))) (by decide)) fun r_first v_first G e_first b_first n => ?_
  replace b_drop := n.dq b_drop
  replace N := N.trans n
  clear n
  refine q_mv (mv_tupC (mva_allC (mv_ruleG (c := "each yes") (m := (sg ++ "kept")) (ls := ["keep members"]) (g := 2) N.wd (fun h87 m85 => (mv_str m85.wd (ev_catS (Evl.ev_var rfl) (hcat "kept" (by decide +kernel))) rfl)) (fun h88 m86 => (mv_lst (mva_flt m86.wd (Evl.ea_cons Evl.ev_c Evl.ea_nil) rfl ⟨by show 1 ≤ 100000; decide, rfl⟩))) (by rcases hs with rfl | rfl <;> decide +kernel)) fun h84 m83 => (mva_allC (mv_ruleG (c := "some no") (m := (sg ++ "dropped")) (ls := ["drop members"]) (g := 3) m83.wd (fun h93 m91 => (mv_ixE (ds := [.str (sg ++ "dropped"), .list [.str "drop members"], .int 3]) (i := 0) (mv_var (m83.trans m91).wd rfl ((m83.trans m91).dq b_drop) rfl) (fun _ m => mv_int m.wd Evl.ev_c rfl) rfl (by decide) rfl)) (fun h94 m92 => (mv_ixE (ds := [.str (sg ++ "dropped"), .list [.str "drop members"], .int 3]) (i := 1) (mv_var (m83.trans m92).wd rfl ((m83.trans m92).dq b_drop) rfl) (fun _ m => mv_int m.wd Evl.ev_c rfl) rfl (by decide) rfl)) (by rcases hs with rfl | rfl <;> decide +kernel)) fun h90 m89 => (mva_allN (m83.trans m89).wd))) (by decide)) fun r_second v_second G e_second b_second n => ?_
  replace b_drop := n.dq b_drop
  replace b_first := n.dq b_first
  replace N := N.trans n
  clear n
  refine q_mv (mv_catTn (mv_var N.wd rfl b_second e_second) (fun h96 m95 => (mv_tupC (mva_allC (mv_ruleG (c := "timer") (m := (sg ++ "dropped")) (ls := ["drop members"]) (g := 3) m95.wd (fun h101 m99 => (mv_ixE (ds := [.str (sg ++ "dropped"), .list [.str "drop members"], .int 3]) (i := 0) (mv_var (m95.trans m99).wd rfl ((m95.trans m99).dq b_drop) rfl) (fun _ m => mv_int m.wd Evl.ev_c rfl) rfl (by decide) rfl)) (fun h102 m100 => (mv_ixE (ds := [.str (sg ++ "dropped"), .list [.str "drop members"], .int 3]) (i := 1) (mv_var (m95.trans m100).wd rfl ((m95.trans m100).dq b_drop) rfl) (fun _ m => mv_int m.wd Evl.ev_c rfl) rfl (by decide) rfl)) (by rcases hs with rfl | rfl <;> decide +kernel)) fun h98 m97 => (mva_allN (m95.trans m97).wd)) (by decide))) (by decide)) fun r_second v_second G e_second b_second n => ?_
  replace b_drop := n.dq b_drop
  replace b_first := n.dq b_first
  replace N := N.trans n
  clear n
  refine q_two (Ra := Tn isRu 1) (Rb := Tn isRu 1) (mv_tupC (mva_allC (mv_ruleG (c := "some what") (m := "") (ls := ["keep members"]) (g := 2) N.wd (fun h109 m107 => (mv_str m107.wd Evl.ev_c rfl)) (fun h110 m108 => (mv_lst (mva_flt m108.wd (Evl.ea_cons Evl.ev_c Evl.ea_nil) rfl ⟨by show 1 ≤ 100000; decide, rfl⟩))) (by rcases hs with rfl | rfl <;> decide +kernel)) fun h106 m105 => (mva_allN m105.wd)) (by decide)) (fun h104 m103 => (mv_tupC (mva_allC (mv_ruleG (c := "some what") (m := "") (ls := ["drop members"]) (g := 3) m103.wd (fun h115 m113 => (mv_str (m103.trans m113).wd Evl.ev_c rfl)) (fun h116 m114 => (mv_lst (mva_flt (m103.trans m114).wd (Evl.ea_cons Evl.ev_c Evl.ea_nil) rfl ⟨by show 1 ≤ 100000; decide, rfl⟩))) (by rcases hs with rfl | rfl <;> decide +kernel)) fun h112 m111 => (mva_allN (m103.trans m111).wd)) (by decide))) fun r_third r_fourth v_third v_fourth G e_third e_fourth b_third b_fourth n => ?_
  replace b_drop := n.dq b_drop
  replace b_first := n.dq b_first
  replace b_second := n.dq b_second
  replace N := N.trans n
  clear n
  refine q_mv (mv_roP (mv_tupC (mva_allC (mv_stV N.wd (by decide +kernel) (fun h122 m121 => (mv_var m121.wd rfl (m121.dq b_first) e_first)) (by decide)) fun h120 m119 => (mva_allC (mv_stV m119.wd (by decide +kernel) (fun h126 m125 => (mv_var (m119.trans m125).wd rfl ((m119.trans m125).dq b_second) e_second)) (by decide)) fun h124 m123 => (mva_allC (mv_stV (m119.trans m123).wd (by decide +kernel) (fun h130 m129 => (mv_var ((m119.trans m123).trans m129).wd rfl (((m119.trans m123).trans m129).dq b_third) e_third)) (by decide)) fun h128 m127 => (mva_allC (mv_stV ((m119.trans m123).trans m127).wd (by decide +kernel) (fun h134 m133 => (mv_var (((m119.trans m123).trans m127).trans m133).wd rfl ((((m119.trans m123).trans m127).trans m133).dq b_fourth) e_fourth)) (by decide)) fun h132 m131 => (mva_allN (((m119.trans m123).trans m127).trans m131).wd))))) (by decide)) (fun h118 m117 => (mv_tupC (mva_allC (mv_upC m117.wd (by decide +kernel)) fun h136 m135 => (mva_allC (mv_upC (m117.trans m135).wd (by decide +kernel)) fun h138 m137 => (mva_allC (mv_upC ((m117.trans m135).trans m137).wd (by decide +kernel)) fun h140 m139 => (mva_allN (((m117.trans m135).trans m137).trans m139).wd)))) (by decide))) (by decide) (by decide) (by decide) (by decide)) fun r_leader v_leader G e_leader b_leader n => ?_
  replace b_drop := n.dq b_drop
  replace b_first := n.dq b_first
  replace b_second := n.dq b_second
  replace b_third := n.dq b_third
  replace b_fourth := n.dq b_fourth
  replace N := N.trans n
  clear n
  refine q_mv (mv_ruleG (c := "unable") (m := (sg ++ "dropped")) (ls := ["no leader"]) (g := 3) N.wd (fun h143 m141 => (mv_str m141.wd (ev_catS (Evl.ev_var rfl) (hcat "dropped" (by decide +kernel))) rfl)) (fun h144 m142 => (mv_lst (mva_flt m142.wd (Evl.ea_cons Evl.ev_c Evl.ea_nil) rfl ⟨by show 1 ≤ 100000; decide, rfl⟩))) (by rcases hs with rfl | rfl <;> decide +kernel)) fun r_no v_no G e_no b_no n => ?_
  replace b_drop := n.dq b_drop
  replace b_first := n.dq b_first
  replace b_second := n.dq b_second
  replace b_third := n.dq b_third
  replace b_fourth := n.dq b_fourth
  replace b_leader := n.dq b_leader
  replace N := N.trans n
  clear n
  refine q_mv (mv_tupC (mva_allC (mv_ruleG (c := "some ask") (m := "") (ls := []) (g := 1) N.wd (fun h149 m147 => (mv_str m147.wd Evl.ev_c rfl)) (fun h150 m148 => (mv_lst (mva_flt m148.wd Evl.ea_nil rfl ⟨by show 0 ≤ 100000; decide, rfl⟩))) (by rcases hs with rfl | rfl <;> decide +kernel)) fun h146 m145 => (mva_allC (mv_var m145.wd rfl (m145.dq b_no) e_no) fun h152 m151 => (mva_allN (m145.trans m151).wd))) (by decide)) fun r_first v_first G e_first b_first n => ?_
  replace b_drop := n.dq b_drop
  replace b_second := n.dq b_second
  replace b_third := n.dq b_third
  replace b_fourth := n.dq b_fourth
  replace b_leader := n.dq b_leader
  replace b_no := n.dq b_no
  replace N := N.trans n
  clear n
  refine q_mv (mv_tupC (mva_allC (mv_ruleG (c := "able") (m := (sg ++ "yes")) (ls := ["yes leader"]) (g := 2) N.wd (fun h157 m155 => (mv_str m155.wd (ev_catS (Evl.ev_var rfl) (hcat "yes" (by decide +kernel))) rfl)) (fun h158 m156 => (mv_lst (mva_flt m156.wd (Evl.ea_cons Evl.ev_c Evl.ea_nil) rfl ⟨by show 1 ≤ 100000; decide, rfl⟩))) (by rcases hs with rfl | rfl <;> decide +kernel)) fun h154 m153 => (mva_allC (mv_var m153.wd rfl (m153.dq b_no) e_no) fun h160 m159 => (mva_allN (m153.trans m159).wd))) (by decide)) fun r_second v_second G e_second b_second n => ?_
  replace b_drop := n.dq b_drop
  replace b_first := n.dq b_first
  replace b_third := n.dq b_third
  replace b_fourth := n.dq b_fourth
  replace b_leader := n.dq b_leader
  replace b_no := n.dq b_no
  replace N := N.trans n
  clear n
  refine q_mv (mv_tupC (mva_allC (mv_ruleG (c := "some keep") (m := (sg ++ "kept")) (ls := []) (g := 4) N.wd (fun h165 m163 => (mv_str m163.wd (ev_catS (Evl.ev_var rfl) (hcat "kept" (by decide +kernel))) rfl)) (fun h166 m164 => (mv_lst (mva_flt m164.wd Evl.ea_nil rfl ⟨by show 0 ≤ 100000; decide, rfl⟩))) (by rcases hs with rfl | rfl <;> decide +kernel)) fun h162 m161 => (mva_allC (mv_ruleG (c := "some drop") (m := (sg ++ "dropped")) (ls := []) (g := 3) m161.wd (fun h171 m169 => (mv_str (m161.trans m169).wd (ev_catS (Evl.ev_var rfl) (hcat "dropped" (by decide +kernel))) rfl)) (fun h172 m170 => (mv_lst (mva_flt (m161.trans m170).wd Evl.ea_nil rfl ⟨by show 0 ≤ 100000; decide, rfl⟩))) (by rcases hs with rfl | rfl <;> decide +kernel)) fun h168 m167 => (mva_allC (mv_ruleG (c := "timer") (m := "") (ls := ["what leader"]) (g := 2) (m161.trans m167).wd (fun h177 m175 => (mv_str ((m161.trans m167).trans m175).wd Evl.ev_c rfl)) (fun h178 m176 => (mv_lst (mva_flt ((m161.trans m167).trans m176).wd (Evl.ea_cons Evl.ev_c Evl.ea_nil) rfl ⟨by show 1 ≤ 100000; decide, rfl⟩))) (by rcases hs with rfl | rfl <;> decide +kernel)) fun h174 m173 => (mva_allN ((m161.trans m167).trans m173).wd)))) (by decide)) fun r_third v_third G e_third b_third n => ?_
  replace b_drop := n.dq b_drop
  replace b_first := n.dq b_first
  replace b_second := n.dq b_second
  replace b_fourth := n.dq b_fourth
  replace b_leader := n.dq b_leader
  replace b_no := n.dq b_no
  replace N := N.trans n
  clear n
  refine q_mv (mv_tupC (mva_allC (mv_stV N.wd (by decide +kernel) (fun h182 m181 => (mv_var m181.wd rfl (m181.dq b_first) e_first)) (by decide)) fun h180 m179 => (mva_allC (mv_stV m179.wd (by decide +kernel) (fun h186 m185 => (mv_var (m179.trans m185).wd rfl ((m179.trans m185).dq b_second) e_second)) (by decide)) fun h184 m183 => (mva_allC (mv_stV (m179.trans m183).wd (by decide +kernel) (fun h190 m189 => (mv_var ((m179.trans m183).trans m189).wd rfl (((m179.trans m183).trans m189).dq b_third) e_third)) (by decide)) fun h188 m187 => (mva_allC (mv_stV ((m179.trans m183).trans m187).wd (by decide +kernel) (fun h194 m193 => (mv_tupC (mva_allN (((m179.trans m183).trans m187).trans m193).wd) (by decide))) (by decide)) fun h192 m191 => (mva_allC (mv_stV (((m179.trans m183).trans m187).trans m191).wd (by decide +kernel) (fun h198 m197 => (mv_tupC (mva_allN ((((m179.trans m183).trans m187).trans m191).trans m197).wd) (by decide))) (by decide)) fun h196 m195 => (mva_allN ((((m179.trans m183).trans m187).trans m191).trans m195).wd)))))) (by decide)) fun r_states v_states G e_states b_states n => ?_
  replace b_drop := n.dq b_drop
  replace b_first := n.dq b_first
  replace b_second := n.dq b_second
  replace b_third := n.dq b_third
  replace b_fourth := n.dq b_fourth
  replace b_leader := n.dq b_leader
  replace b_no := n.dq b_no
  replace N := N.trans n
  clear n
  exact s_retM (mv_proP (mv_var N.wd rfl b_leader e_leader) (fun h200 m199 => (mv_roP (mv_var m199.wd rfl (m199.dq b_states) e_states) (fun h202 m201 => (mv_tupC (mva_allC (mv_upC (m199.trans m201).wd (by decide +kernel)) fun h204 m203 => (mva_allC (mv_upC ((m199.trans m201).trans m203).wd (by decide +kernel)) fun h206 m205 => (mva_allC (mv_upC (((m199.trans m201).trans m203).trans m205).wd (by decide +kernel)) fun h208 m207 => (mva_allC (mv_upC ((((m199.trans m201).trans m203).trans m205).trans m207).wd (by decide +kernel)) fun h210 m209 => (mva_allN (((((m199.trans m201).trans m203).trans m205).trans m207).trans m209).wd))))) (by decide))) (by decide) (by decide) (by decide) (by decide)))) fun r v H' a b c => fin r v H' a b (N.trans c)
end
end Al
namespace Al
open PySem PySem.Spec PyProof.Rows L2
open Evl (Ex Ev EvT EvA EvL EvU EvO SpV RV RC RCL)
variable {D : Ban} {d l : Addr} {H : Hp}
section
variable {K : PySem.W.Frag} {σ : L2.St} {ta tb tc te tl tm : TE} {tA : TA} {t : TT} {x y z v : V} {R Ra Rb : PyData → Prop} {r : PyData} {E : XK} {Dn : Ends} {tu tz : TS}
theorem q_twoNew {i j : Nat} (h1 : Mv D d l ta σ H Ra) (k : ∀ r v p H0, Ra r → Dq D H0 r v → Nx D d l H H0 → H0 p = none → tz Dn ((σ.set i (some v)).set j (some (.ref p))) (upd H0 p (.lst []))) : tSeq (tPar i j (tCons ta (tCons (tLst tNil) tNil))) tz Dn σ H :=
  h1 _ fun r v H1 a b n => ⟨Nat.zero_le _, fun p hp => ⟨v, .ref p, rfl, k r v p H1 a b n hp⟩⟩
theorem q_new {i : Nat} (k : ∀ p, H p = none → tz Dn (σ.set i (some (.ref p))) (upd H p (.lst []))) : tSeq (tAsg (tLst tNil) (gName i)) tz Dn σ H := ⟨Nat.zero_le _, fun p hp => k p hp⟩
theorem Lw.nx {p : Addr} {i : Nat} {H0 H' H2 : Hp} (w : Wd D d l H0) (hp : H0 p = none) (h : Lw D d l R H0 p i H') (n : Nx (Bp D p) d l H' H2) : Lw D d l R H0 p i H2 := by
  obtain ⟨g, w2, acc, ds, ha, hl, hi2, hr⟩ := h
  exact ⟨g.trans (n.gr.sub fun a z => .inl z), n.wd, acc, ds, n.keep ha (bp_dd w hp), n.dqL hl, hi2, hr⟩
theorem mv_catL {A B : List PyData → Prop} (h1 : Mv D d l ta σ H fun r => ∃ ds, r = .list ds ∧ A ds) (h2 : ∀ H1, Nx D d l H H1 → Mv D d l tb σ H1 fun r => ∃ ds, r = .list ds ∧ B ds) (hR : ∀ ds es, A ds → B es → ds.length + es.length ≤ 100000 ∧ R (.list (ds ++ es))) : Mv D d l (tOp rCat ta tb) σ H R :=
  mv_op h1 (fun r v H1 _ _ n => h2 H1 n) fun r1 v1 r2 v2 H1 ⟨ds, e1, a1⟩ ⟨es, e2, a2⟩ b1 b2 n Q q => by
    subst e1 e2
    unfold Dq at b1 b2
    obtain ⟨p1, xs, rfl, _, hp1, hl1⟩ := b1
    obtain ⟨p2, ys, rfl, _, hp2, hl2⟩ := b2
    have hz := (hR ds es a1 a2).1
    exact ⟨p1, p2, xs, ys, rfl, rfl, hp1, hp2, Evl.sz_of (by rw [hl1.length, hl2.length]; exact hz), fun p hp => q _ _ _ (hR ds es a1 a2).2 (dq_newL n.wd hp (hl1.append hl2)) (n.wd.new hp _)⟩
theorem mv_pickG {kd : Nat} (hd : σ[kd]? = some (some (.ref d))) (ha : Mv D d l ta σ H fun r => ∃ ds, (r = .list ds ∨ r = .tuple ds) ∧ ds ≠ [] ∧ ds.length ≤ 100000 ∧ ∀ x ∈ ds, R x) : Mv D d l (tCall (spM PrePick PostPick) [] E (tCons (tVar kd) (tCons ta tNil))) σ H R :=
  mv_callM (Rs := fun as => ∃ ds, (as = [.list ds] ∨ as = [.tuple ds]) ∧ ds ≠ [] ∧ ds.length ≤ 100000 ∧ ∀ x ∈ ds, R x) hd (mva_one (ha.imp fun r ⟨ds, e, h⟩ => ⟨ds, e.imp (fun e => by rw [e]) (fun e => by rw [e]), h⟩)) fun as ⟨ds, a, h0, hn, hr⟩ => ⟨⟨ds, a, h0, hn⟩, fun r ⟨es, e2, hm⟩ => by
    have e3 : ds = es := by
      rcases a with e | e <;> rw [e] at e2 <;> simpa using e2
    rw [← e3] at hm
    exact hr r hm⟩
theorem mv_andV (h1 : Mv D d l ta σ H fun r => ∃ b, r = .bool b) (h2 : ∀ H1, Nx D d l H H1 → Mv D d l tb σ H1 fun r => ∃ b, r = .bool b) : Mv D d l (tAndV ta tb) σ H fun r => ∃ b, r = .bool b := fun Q q =>
  h1 _ fun r v H1 ⟨b, e⟩ hq n => by
    subst e
    unfold Dq at hq
    subst hq
    refine ⟨b, rfl, ?_⟩
    cases b with
    | true =>
      show tb σ H1 Q
      exact h2 H1 n Q fun r v H2 a b c => q r v H2 a b (n.trans c)
    | false =>
      show Q (.bl false) H1
      exact q _ _ H1 ⟨false, rfl⟩ (by unfold Dq; rfl) n
theorem mv_eqI {c : Int} (h : Mv D d l ta σ H fun r => ∃ i, r = .int i) : Mv D d l (tOp rEq ta (tC (.int c))) σ H fun r => ∃ b, r = .bool b := fun Q q =>
  h _ fun r v H1 ⟨i, e⟩ hq n => by
    subst e
    unfold Dq at hq
    subst hq
    exact ⟨rfl, q _ _ H1 ⟨_, rfl⟩ (by unfold Dq; rfl) n⟩
theorem rules_few : ∀ {ss : List PyData}, ss.all isSt = true → (rulesOf ss).length ≤ 3 * ss.length
  | [], _ => by show 0 ≤ _; omega
  | s :: ss, h => by
    rw [List.all_cons, Bool.and_eq_true] at h
    have ih := rules_few h.2
    obtain ⟨e, rs, rfl, _, h3, _⟩ := isSt_iff h.1
    have e1 : rulesOf (.tuple [.str e, .tuple rs] :: ss) = rs ++ rulesOf ss := rfl
    rw [e1, List.length_append, List.length_cons]
    omega
theorem mv_lmarks {ss : List PyData} {u : PyData} (h : Mv D d l ta σ H fun r => r = .tuple [.tuple ss, u]) (hs : ss.all isSt = true) (hn : ss.length ≤ 5) : Mv D d l (tCall spLMarks [] E (tCons ta tNil)) σ H fun r => r = .list ((srt (marksOf ss)).map PyData.str) ∧ IsSrt (marksOf ss) (srt (marksOf ss)) := fun Q q =>
  h _ fun r v H1 e b n => by
    subst e
    unfold Dq at b
    obtain ⟨a, xs, rfl, na, ha, hl⟩ := b
    unfold DqL at hl
    obtain ⟨x0, rest, rfl, h0, _⟩ := hl
    have wf : ∀ s ∈ ss, WfS s := fun s hm => by
      obtain ⟨e, rs, rfl, _, _, hr⟩ := isSt_iff (List.all_eq_true.mp hs s hm)
      exact ⟨_, rs, rfl, fun r hr2 => by
        obtain ⟨cs, m, f, ls, g, rfl, _⟩ := isRu_iff (List.all_eq_true.mp hr r hr2)
        exact ⟨_, _, _, _, _, rfl⟩⟩
    refine ⟨D, ss, a, x0, rest, rfl, ha, h0, wf, Nat.le_trans (rules_few hs) (by omega), fun r H2 e2 hr hi _ h2 => ?_⟩
    have n2 := n.wd.ex e2
    exact q _ _ H2 ⟨rfl, hi⟩ (dq_lst (n.wd.nf hr) h2 (DqL.strs _)) (n.trans n2)
theorem marks_few {ss : List PyData} (hs : ss.all isSt = true) (hn : ss.length ≤ 5) : (marksOf ss).length ≤ 15 := by
  have h1 := rules_few hs
  have h2 := marksIn_len (rulesOf ss)
  rw [marksOf_in]
  omega
theorem nodup_le : ∀ {ys zs : List Str}, ys.Nodup → (∀ y ∈ ys, y ∈ zs) → ys.length ≤ zs.length
  | [], _, _, _ => Nat.zero_le _
  | y :: ys, zs, hn, hm => by
    have h1 := hm y List.mem_cons_self
    have hn' := List.nodup_cons.mp hn
    have ih := nodup_le (ys := ys) (zs := zs.erase y) hn'.2 fun z hz => (List.mem_erase_of_ne (fun e => hn'.1 (by rw [← e]; exact hz))).mpr (hm z (List.mem_cons_of_mem _ hz))
    rw [List.length_erase_of_mem h1] at ih
    have : 0 < zs.length := List.length_pos_of_mem h1
    show ys.length + 1 ≤ _
    omega
theorem srt_few {ss : List PyData} (hs : ss.all isSt = true) (hn : ss.length ≤ 5) (h : IsSrt (marksOf ss) (srt (marksOf ss))) : (srt (marksOf ss)).length ≤ 15 :=
  Nat.le_trans (nodup_le h.nd fun y hy => (h.mem y).mp hy) (marks_few hs hn)
theorem marks_sh {ss : List PyData} (hs : ss.all isSt = true) {m : Str} (h : m ∈ marksOf ss) : sh m = true := by
  unfold marksOf at h
  obtain ⟨r, hr, e⟩ := List.mem_map.mp (List.mem_filter.mp h).1
  obtain ⟨s, hsm, hrs⟩ := List.mem_flatMap.mp (show r ∈ ss.flatMap rsOf from hr)
  obtain ⟨e1, rs, rfl, _, _, h2⟩ := isSt_iff (List.all_eq_true.mp hs s hsm)
  obtain ⟨cs, m', f, ls, g, rfl, _, _, h3, _⟩ := isRu_iff (List.all_eq_true.mp h2 r (show r ∈ rs from hrs))
  rw [← e]
  exact h3
theorem sh_nil : sh "" = true := by decide +kernel
/-- the marks asked after, the empty one first -/
theorem marks_at {ss : List PyData} (hs : ss.all isSt = true) (h : IsSrt (marksOf ss) (srt (marksOf ss))) {i : Nat} {x : PyData} (hx : (PyData.str "" :: (srt (marksOf ss)).map PyData.str)[i]? = some x) : ∃ m, x = .str m ∧ sh m = true := by
  have hm := List.mem_of_getElem? hx
  rcases List.mem_cons.mp hm with e | e
  · exact ⟨"", e, sh_nil⟩
  · obtain ⟨m, hm2, rfl⟩ := List.mem_map.mp e
    exact ⟨m, rfl, marks_sh hs ((h.mem m).mp hm2)⟩
end
def PreDr (rs : List PyData) : Prop := ∃ b n ws ms, rs = [.bool b, .int n, .list ws, .list ms] ∧ 1 ≤ n ∧ n ≤ 5 ∧ ws ≠ [] ∧ ws.length ≤ 10 ∧ ws.all isSh = true ∧ ms.length ≤ 10 ∧ ms.all isSh = true
def PostDr (_ : List PyData) (r : PyData) : Prop := Is isRu r
def isCs : PyData → Bool
  | .tuple cs => decide (cs.length ≤ 2) && cs.all isSh
  | _ => false
theorem isCs_iff {r : PyData} (h : Is isCs r) : ∃ cs, r = .tuple cs ∧ cs.length ≤ 2 ∧ cs.all isSh = true := by
  cases r <;> simp [Is, isCs] at h ⊢
  exact h
section
variable {P : Program} {w : World} {K : PySem.W.Frag} {mg : Str → Option Value} {base : Heap}
theorem sc_dr : FnScope ["_law_deck_here", "_law_is_leader", "_law_many", "_law_words", "_law_marks_here", "_law_kind", "_law_cause", "_law_mark", "_law_letters", "_law_turn", "_law_to"] ["_law_deck_here", "_law_is_leader", "_law_many", "_law_words", "_law_marks_here"] (defScope (top 52)) := ⟨rfl, rfl, rfl, by decide +kernel, rfl, by decide +kernel, by decide +kernel⟩
set_option maxHeartbeats 4000000 in
theorem ok_dr (F : Def K mg "_law_drawn_rule" (top 52) ["_law_deck_here", "_law_is_leader", "_law_many", "_law_words", "_law_marks_here"]) (B : Bl mg) (c_draw : Cal P w K mg base 1 "_law_draw" spDraw) (c_pick : Cal P w K mg base 2 "_law_pick" (spM PrePick PostPick)) : Cal P w K mg base 3 "_law_drawn_rule" (spM PreDr PostDr) := by
  refine Cal.of F sc_dr (lenM fun rs ⟨b, n, ws, ms, er, _⟩ => by rw [er]; rfl) (fun f cdv A outer s H vs Q E hr h => ?_)
  refine ⟨_, (pss_cons (ps_set (i := 5) sc_dr.nd rfl (.inl rfl) (pcall c_pick hr (pa_cons (pv 0) (pa_cons (pv 3) pa_nil))))
      (pss_cons (ps_set (i := 6) sc_dr.nd rfl (.inl rfl) (pcall c_pick hr (pa_cons (pv 0) (pa_cons (pe_lst (pa_cons (pe_tup (pa_cons pe_str pa_nil)) (pa_cons (pe_tup (pa_cons pe_str pa_nil)) (pa_cons (pe_tup (pa_cons pe_str pa_nil)) (pa_cons (pe_tup (pa_cons pe_str (pa_cons (pv 5) pa_nil))) (pa_cons (pe_tup (pa_cons pe_str (pa_cons (pv 5) pa_nil))) (pa_cons (pe_tup (pa_cons pe_str (pa_cons (pv 5) pa_nil))) (pa_cons (pe_tup (pa_cons pe_str pa_nil)) pa_nil)))))))) pa_nil))))
      (pss_cons (ps_par (i := 7) (j := 8) rfl sc_dr.nd rfl rfl (by decide) rfl rfl (pa_cons (pcall c_pick hr (pa_cons (pv 0) (pa_cons (pe_op op_cat (pv 4) (pe_lst (pa_cons pe_str pa_nil))) pa_nil))) (pa_cons (pe_lst pa_nil) pa_nil)) (by rfl))
      (pss_cons (ps_for PassesOwn.never rfl (pi_range1 rfl B.range (pa_cons (pcall c_pick hr (pa_cons (pv 0) (pa_cons (pe_lst (pa_cons pe_int (pa_cons pe_int (pa_cons pe_int (pa_cons pe_int (pa_cons pe_int pa_nil)))))) pa_nil))) pa_nil)) (pg_name (i := 9) sc_dr.nd rfl (.inl rfl)) (pss_cons (ps_set (i := 10) sc_dr.nd rfl (.inl rfl) (pcall c_pick hr (pa_cons (pv 0) (pa_cons (pe_ifExp (pt_val (pv 1)) (pe_lst (pa_cons pe_str (pa_cons pe_str pa_nil))) (pe_lst (pa_cons pe_str (pa_cons pe_str (pa_cons pe_str (pa_cons pe_str pa_nil)))))) pa_nil))))
      (pss_one (ps_expr (pe_bm PySem.F.plainAttrs_list PySem.F.slot_list_append PySem.F.type_list_append mt_append (pv 8) (pa_cons (pe_tup (pa_cons (pcall c_pick hr (pa_cons (pv 0) (pa_cons (pv 3) pa_nil))) (pa_cons (pv 10) pa_nil))) pa_nil))))))
      (pss_one (ps_ret (pe_tup (pa_cons (pv 6) (pa_cons (pv 7) (pa_cons (pe_and (pe_cmpR op_ne (pv 7) pe_str (nomark _)) (pe_one (pe_cmpR op_eq (pcall c_draw hr (pa_cons (pv 0) (pa_cons pe_int pa_nil))) pe_int (nomark _)))) (pa_cons (pe_tupleOf (by rfl) B.tuple (pv 8)) (pa_cons (pcall c_draw hr (pa_cons (pv 0) (pa_cons (pv 2) pa_nil))) pa_nil)))))))))))), ?_⟩
  obtain ⟨D, d, l, vs', rs, rfl, hw, hq, ⟨b, n, ws, ms, rfl, hn1, hn2, hws0, hwsn, hws, hmsn, hms⟩, q⟩ := h
  unfold DqL at hq
  obtain ⟨v1, s1, rfl, q1, hq⟩ := hq
  unfold DqL at hq
  obtain ⟨v2, s2, rfl, q2, hq⟩ := hq
  unfold DqL at hq
  obtain ⟨v3, s3, rfl, q3, hq⟩ := hq
  unfold DqL at hq
  obtain ⟨v4, s4, rfl, q4, hq⟩ := hq
  unfold DqL at hq
  subst hq
  unfold Dq at q1 q2
  subst q1 q2
  have fin : ∀ r v H', Is isRu r → Dq D H' r v → Nx D d l H H' → Q v H' := fun r v H' a b c => q r v H' a b c
  refine q_mv (R := Is isSh) (mv_pickV (ds := ws) rfl (mv_var hw rfl q3 (.inl rfl)) hws0 (by omega) fun r hr => List.all_eq_true.mp hws r hr) fun rk vk H1 hk bk n1 => ?_
  obtain ⟨kz, rfl, hkz⟩ := isSh_iff hk
  unfold Dq at bk
  subst bk
  have one : ∀ {H'} {σ : L2.St} {z : Str}, Wd D d l H' → sh z = true → Mv D d l (tTup (tCons (tC (.str z)) tNil)) σ H' (Is isCs) := fun {H'} {σ} {z} w hz => mv_tup (mva_one (mv_str w Evl.ev_c ⟨one_le, by show (decide ([PyData.str z].length ≤ 2) && (sh z && true)) = true; rw [hz]; rfl⟩))
  have two : ∀ {H'} {σ : L2.St} {z : Str}, Wd D d l H' → sh z = true → σ[5]? = some (some (.str kz)) → Mv D d l (tTup (tCons (tC (.str z)) (tCons (tVar 5) tNil))) σ H' (Is isCs) := fun {H'} {σ} {z} w hz hv => mv_tup (mva_ev (vs := [.str z, .str kz]) (rs := [.str z, .str kz]) w (Evl.ea_cons Evl.ev_c (Evl.ea_cons (Evl.ev_var hv) Evl.ea_nil)) (dqL_flt (vs := [.str z, .str kz]) rfl) ⟨by show 2 ≤ 100000; decide, by show (decide ([PyData.str z, PyData.str kz].length ≤ 2) && (sh z && (sh kz && true))) = true; rw [hz, hkz]; rfl⟩)
  refine q_mv (R := Is isCs) (mv_pickA (n := 7) rfl (mva_allC (one n1.wd (by decide +kernel)) fun _ m1 => mva_allC (one m1.wd (by decide +kernel)) fun _ m2 => mva_allC (one m2.wd (by decide +kernel)) fun _ m3 => mva_allC (two m3.wd (by decide +kernel) rfl) fun _ m4 => mva_allC (two m4.wd (by decide +kernel) rfl) fun _ m5 => mva_allC (two m5.wd (by decide +kernel) rfl) fun _ m6 => mva_allC (one m6.wd (by decide +kernel)) fun _ m7 => mva_allN m7.wd) (by decide) (by decide)) fun rc vc H2 hc bc n2 => ?_
  obtain ⟨cs, rfl, hcs1, hcs2⟩ := isCs_iff hc
  have N2 := n1.trans n2
  refine q_twoNew (Ra := Is isSh) (mv_pickG rfl (mv_catL (A := fun es => es = ms) (B := fun es => es = [.str ""]) (mv_var N2.wd rfl (N2.dq q4) ⟨ms, rfl, rfl⟩) (fun H3 n3 => mv_lst (mva_one (mv_str n3.wd Evl.ev_c ⟨one_le, _, rfl, rfl⟩))) fun es fs ee ef => ?_)) fun rm vm p H0 hm bm n3 hp => ?_
  · subst ee ef
    refine ⟨by show es.length + 1 ≤ 100000; omega, _, .inl rfl, by simp, by rw [List.length_append]; show es.length + 1 ≤ 100000; omega, fun x hx => ?_⟩
    rcases List.mem_append.mp hx with hx | hx
    · exact List.all_eq_true.mp hms x hx
    · rw [List.mem_singleton.mp hx]
      exact sh_nil
  obtain ⟨mz, rfl, hmz⟩ := isSh_iff hm
  unfold Dq at bm
  subst bm
  have N0 := N2.trans n3
  have hw0 := N0.wd
  have L0 : Lw D d l (Is isPr) H0 p 0 (upd H0 p (.lst [])) := lw0 hw0 hp
  refine q_forR1M (D := Bp D p) (d := d) (l := l) (n := 2) (by decide) (mva_one ((mv_pickF L0.2.1 rfl (Evl.ea_cons Evl.ev_c (Evl.ea_cons Evl.ev_c (Evl.ea_cons Evl.ev_c (Evl.ea_cons Evl.ev_c (Evl.ea_cons Evl.ev_c Evl.ea_nil))))) (by decide +kernel)).imp fun r ⟨v, hv, e⟩ => ?_))
    (fun i σ' H' => Lw D d l (Is isPr) H0 p i H' ∧ ∃ x9 x10, σ' = [some (.ref d), some (.bl b), some (.int n), some v3, some v4, some (.str kz), some vc, some (.str mz), some (.ref p), x9, x10])
    (fun H' nx => ⟨L0.nx hw0 hp nx, none, none, rfl⟩) (fun i σ' H' hi P => ?_) fun i σ' H' hi P => ?_
  · simp only [List.mem_cons, List.not_mem_nil, or_false] at hv
    rcases hv with rfl | rfl | rfl | rfl | rfl
    · exact ⟨0, by rw [e]; rfl, by decide, by decide⟩
    · exact ⟨1, by rw [e]; rfl, by decide, by decide⟩
    · exact ⟨1, by rw [e]; rfl, by decide, by decide⟩
    · exact ⟨2, by rw [e]; rfl, by decide, by decide⟩
    · exact ⟨0, by rw [e]; rfl, by decide, by decide⟩
  · obtain ⟨P1, x9, x10, rfl⟩ := P
    have w1 := P1.2.1
    refine q_mv (R := Is isSh) (mv_pickG rfl (mv_if (b := b) w1 (Evl.et_B (Evl.ev_var rfl)) (fun _ H3 m3 _ => mv_lst (mva_flt m3.wd (Evl.ea_cons Evl.ev_c (Evl.ea_cons Evl.ev_c Evl.ea_nil)) rfl ⟨by decide, _, .inl rfl, by simp, by decide, ?_⟩)) (fun _ H3 m3 _ => mv_lst (mva_flt m3.wd (Evl.ea_cons Evl.ev_c (Evl.ea_cons Evl.ev_c (Evl.ea_cons Evl.ev_c (Evl.ea_cons Evl.ev_c Evl.ea_nil)))) rfl ⟨by decide, _, .inl rfl, by simp, by decide, ?_⟩)))) fun rt vt H3 ht bt m3 => ?_
    · exact List.all_eq_true.mp (by decide +kernel : ([PyData.str "members", PyData.str "others"]).all isSh = true)
    · exact List.all_eq_true.mp (by decide +kernel : ([PyData.str "leader", PyData.str "members", PyData.str "others", PyData.str "leader"]).all isSh = true)
    obtain ⟨tz, rfl, htz⟩ := isSh_iff ht
    unfold Dq at bt
    subst bt
    have P3 := P1.nx hw0 hp m3
    refine s_appM hw0 hp P3 (by omega) rfl (mv_tup (mva_cons (Ra := Is isSh) (mv_pickV (ds := ws) rfl (mv_var m3.wd rfl (P3.dq hw0 hp (N0.dq q3)) (.inl rfl)) hws0 (by omega) fun r hr => List.all_eq_true.mp hws r hr) fun r v H4 hr br m4 => ?_)) fun H5 P5 => ⟨P5, _, _, rfl⟩
    obtain ⟨az, rfl, haz⟩ := isSh_iff hr
    exact mva_one (mv_str m4.wd (Evl.ev_var rfl) ⟨by show 2 ≤ 100000; decide, isPr_mk haz htz⟩)
  · obtain ⟨P1, x9, x10, rfl⟩ := P
    obtain ⟨nd, ls, hls, hlen, hall⟩ := lw_done hw0 hp P1
    refine s_retM (R := Is isRu) (mv_tup ?_) fun r v H' a b c => fin r v H' a b ((N0.trans nd).trans c)
    refine mva_cons (Ra := fun r => r = .tuple cs) (mv_var nd.wd rfl ((n3.trans nd).dq bc) rfl) fun r v H3 er _ m3 => ?_
    subst er
    refine mva_cons (Ra := fun r => r = .str mz) (mv_str m3.wd (Evl.ev_var rfl) rfl) fun r v H4 er _ m4 => ?_
    subst er
    refine mva_cons (Ra := fun r => ∃ b, r = .bool b) (mv_andV (mv_bl m4.wd (Evl.ev_op (Evl.ev_var rfl) Evl.ev_c (Evl.rv_ne rfl)) ⟨_, rfl⟩) fun H5 m5 => mv_eqI ((mv_drawC m5.wd rfl).imp fun r ⟨i, e, _⟩ => ⟨i, e⟩)) fun r v H5 ⟨fb, er⟩ _ m5 => ?_
    subst er
    refine mva_cons (Ra := fun r => r = .tuple ls) (mv_tupOf (mv_var m5.wd rfl (((m3.trans m4).trans m5).dq hls) ⟨ls, .inl rfl, rfl⟩)) fun r v H6 er _ m6 => ?_
    subst er
    refine mva_one (mv_draw (many := n) rfl (mv_int m6.wd (Evl.ev_var rfl) rfl) hn1 (by omega) fun i i0 i1 => ⟨by show 5 ≤ 100000; decide, isRu_mk hcs1 hcs2 hmz (by omega) (List.all_eq_true.mpr hall) (by omega)⟩)
end
end Al
namespace Al
open PySem PySem.Spec PyProof.Rows L2
open Evl (Ex Ev EvT EvA EvL EvU EvO SpV RV RC RCL)
variable {D : Ban} {d l : Addr} {H : Hp}
section
variable {K : PySem.W.Frag} {σ : L2.St} {ta : TE} {R Ra : PyData → Prop} {Dn : Ends} {tz : TS}
theorem q_twoNewT {i j : Nat} (h1 : Mv D d l ta σ H Ra) (k : ∀ r v p H0 H', Ra r → Dq D H0 r v → Nx D d l H H0 → H0 p = none → Lw D d l R H0 p 0 H' → tz Dn ((σ.set i (some v)).set j (some (.ref p))) H') :
    tSeq (tAsg (tTup (tCons ta (tCons (tLst tNil) tNil))) (gTup K 2 (gCons (gName i) (gCons (gName j) gNil)))) tz Dn σ H :=
  h1 _ fun r v H1 a b n => ⟨Nat.zero_le _, fun p hp => ⟨by show 2 ≤ sizeLine; decide, fun q hq => by
    have L0 : Lw D d l R H1 p 0 (upd H1 p (.lst [])) := lw0 n.wd hp
    have L1 := L0.nx n.wd hp (L0.2.1.new hq (.tup [v, .ref p]))
    exact ⟨q, _, rfl, Evl.st_of upd_same, rfl, v, _, rfl, .ref p, _, rfl, rfl, k r v p H1 _ a b n hp L1⟩⟩⟩
end
def PreDo (rs : List PyData) : Prop := ∃ b ws ms, rs = [.bool b, .list ws, .list ms] ∧ ws ≠ [] ∧ ws.length ≤ 10 ∧ ws.all isSh = true ∧ ms.length ≤ 10 ∧ ms.all isSh = true
def PostRo (_ : List PyData) (r : PyData) : Prop := Is isRo r
def PrePr (rs : List PyData) : Prop := ∃ r, rs = [r] ∧ Is isPro r
section
variable {P : Program} {w : World} {K : PySem.W.Frag} {mg : Str → Option Value} {base : Heap}
theorem sc_do : FnScope ["_law_deck_here", "_law_is_leader", "_law_words", "_law_marks_here", "_law_many", "_law_states", "_law_at", "_law_rules", "_law_turn", "_law_found", "_law_mark"] ["_law_deck_here", "_law_is_leader", "_law_words", "_law_marks_here"] (defScope (top 53)) := ⟨rfl, rfl, rfl, by decide +kernel, rfl, by decide +kernel, by decide +kernel⟩
set_option maxHeartbeats 4000000 in
theorem ok_do (F : Def K mg "_law_drawn_role" (top 53) ["_law_deck_here", "_law_is_leader", "_law_words", "_law_marks_here"]) (B : Bl mg) (c_draw : Cal P w K mg base 1 "_law_draw" spDraw) (c_pick : Cal P w K mg base 2 "_law_pick" (spM PrePick PostPick)) (c_dr : Cal P w K mg base 3 "_law_drawn_rule" (spM PreDr PostDr)) (c_marks : Cal P w K mg base 1 "_law_marks" spLMarks) : Cal P w K mg base 4 "_law_drawn_role" (spM PreDo PostRo) := by
  refine Cal.of F sc_do (lenM fun rs ⟨b, ws, ms, er, _⟩ => by rw [er]; rfl) (fun f cdv A outer s H vs Q E hr h => ?_)
  refine ⟨_, (pss_cons (ps_asg (pe_tup (pa_cons (pcall c_pick hr (pa_cons (pv 0) (pa_cons (pe_lst (pa_cons pe_int (pa_cons pe_int (pa_cons pe_int (pa_cons pe_int (pa_cons pe_int pa_nil)))))) pa_nil))) (pa_cons (pe_lst pa_nil) pa_nil))) (pg_tup rfl (pgs_cons (pg_name (i := 4) sc_do.nd rfl (.inr rfl)) (pgs_cons (pg_name (i := 5) sc_do.nd rfl (.inl rfl)) pgs_nil))))
      (pss_cons (ps_for PassesOwn.never rfl (pi_range1 rfl B.range (pa_cons (pv 4) pa_nil)) (pg_name (i := 6) sc_do.nd rfl (.inl rfl)) (pss_cons (ps_setLc (i := 7) (own := [("_law_turn", 8)]) (g := gName 8) (tt := tYes) (te := tCall (spM PreDr PostDr) [] E0 (tCons (tVar 0) (tCons (tVar 1) (tCons (tVar 4) (tCons (tVar 2) (tCons (tVar 3) tNil)))))) rfl sc_do.nd rfl rfl (by rfl) (pi_range1 rfl B.range (pa_cons (pcall c_pick hr (pa_cons (pv 0) (pa_cons (pe_lst (pa_cons pe_int (pa_cons pe_int (pa_cons pe_int (pa_cons pe_int (pa_cons pe_int pa_nil)))))) pa_nil))) pa_nil)) (blkOk_by (N := ["_law_deck_here", "_law_is_leader", "_law_words", "_law_marks_here", "_law_many", "_law_states", "_law_at", "_law_rules", "_law_turn", "_law_found", "_law_mark"]) (sc := defScope (top 53)) (by decide +kernel)) (fun _ _ _ _ _ => pg_name (i := 8) sc_do.nd rfl (Or.inl rfl)) (fun _ _ _ _ _ => pts_nil)
        (fun _ _ _ _ _ => pcall c_dr hr (pa_cons (pv 0) (pa_cons (pv 1) (pa_cons (pv 4) (pa_cons (pv 2) (pa_cons (pv 3) pa_nil)))))))
      (pss_one (ps_expr (pe_bm PySem.F.plainAttrs_list PySem.F.slot_list_append PySem.F.type_list_append mt_append (pv 5) (pa_cons (pe_tup (pa_cons (pe_ifExp (pt_cmpR op_gt (pv 6) pe_int (nomark _)) (pcall c_pick hr (pa_cons (pv 0) (pa_cons (pe_lst (pa_cons pe_str (pa_cons pe_str (pa_cons pe_str (pa_cons pe_str pa_nil))))) pa_nil))) (pcall c_pick hr (pa_cons (pv 0) (pa_cons (pe_lst (pa_cons pe_str (pa_cons pe_str (pa_cons pe_str (pa_cons pe_str pa_nil))))) pa_nil)))) (pa_cons (pe_tupleOf (by rfl) B.tuple (pv 7)) pa_nil))) pa_nil))))))
      (pss_cons (ps_set (i := 9) sc_do.nd rfl (.inl rfl) (pe_tup (pa_cons (pe_tupleOf (by rfl) B.tuple (pv 5)) (pa_cons (pe_tup pa_nil) pa_nil))))
      (pss_one (ps_ret (pe_tup (pa_cons (pe_ix ix_tup (pv 9) pe_int (fun _ _ => rfl)) (pa_cons (pe_tupleOf (by rfl) B.tuple (pe_lc (own := [("_law_mark", 10)]) (g := gName 10) (tt := tYes) (te := tTup (tCons (tVar 10) (tCons (tCall spDraw [] E0 (tCons (tVar 0) (tCons (tVar 4) tNil))) tNil))) rfl sc_do.nd (pi_list (pe_op op_cat (pe_lst (pa_cons pe_str pa_nil)) (pcall c_marks hr (pa_cons (pv 9) pa_nil)))) (blkOk_by (N := ["_law_deck_here", "_law_is_leader", "_law_words", "_law_marks_here", "_law_many", "_law_states", "_law_at", "_law_rules", "_law_turn", "_law_found", "_law_mark"]) (sc := defScope (top 53)) (by decide +kernel)) (fun _ _ _ _ _ => pg_name (i := 10) sc_do.nd rfl (Or.inl rfl)) (fun _ _ _ _ _ => pts_nil)
        (fun _ _ _ _ _ => pe_tup (pa_cons (pv 10) (pa_cons (pcall c_draw hr (pa_cons (pv 0) (pa_cons (pv 4) pa_nil))) pa_nil))))) pa_nil)))))))), ?_⟩
  obtain ⟨D, d, l, vs', rs, rfl, hw, hq, ⟨b, ws, ms, rfl, hws0, hwsn, hws, hmsn, hms⟩, q⟩ := h
  unfold DqL at hq
  obtain ⟨v1, s1, rfl, q1, hq⟩ := hq
  unfold DqL at hq
  obtain ⟨v3, s3, rfl, q3, hq⟩ := hq
  unfold DqL at hq
  obtain ⟨v4, s4, rfl, q4, hq⟩ := hq
  unfold DqL at hq
  subst hq
  unfold Dq at q1
  subst q1
  have fin : ∀ r v H', Is isRo r → Dq D H' r v → Nx D d l H H' → Q v H' := fun r v H' a b c => q r v H' a b c
  refine q_twoNewT (R := Is isSt) (Ra := fun r => ∃ n : Int, r = .int n ∧ 1 ≤ n ∧ n ≤ 5) ((mv_pickF hw rfl (Evl.ea_cons Evl.ev_c (Evl.ea_cons Evl.ev_c (Evl.ea_cons Evl.ev_c (Evl.ea_cons Evl.ev_c (Evl.ea_cons Evl.ev_c Evl.ea_nil))))) (by decide +kernel)).imp fun r ⟨v, hv, e⟩ => ?_) fun rn vn p H0 H01 ⟨n, en, hn1, hn2⟩ bn N0 hp L0 => ?_
  · simp only [List.mem_cons, List.not_mem_nil, or_false] at hv
    rcases hv with rfl | rfl | rfl | rfl | rfl
    · exact ⟨2, e, by decide, by decide⟩
    · exact ⟨3, e, by decide, by decide⟩
    · exact ⟨2, e, by decide, by decide⟩
    · exact ⟨4, e, by decide, by decide⟩
    · exact ⟨1, e, by decide, by decide⟩
  subst en
  unfold Dq at bn
  subst bn
  have hw0 := N0.wd
  refine Evl.q_forR1 (n := n) (Evl.ea_cons (Evl.ev_var rfl) Evl.ea_nil) ⟨by omega, by omega⟩
    (fun i σ' H' => Lw D d l (Is isSt) H0 p i H' ∧ ∃ x6 x7, σ' = [some (.ref d), some (.bl b), some v3, some v4, some (.int n), some (.ref p), x6, x7, none, none, none])
    (fun H' e => ⟨L0.nx hw0 hp (L0.2.1.ex e), none, none, rfl⟩) (fun i σ' H' hi P => ?_) fun σ' H' P => ?_
  · obtain ⟨P1, x6, x7, rfl⟩ := P
    have w1 := P1.2.1
    refine q_mv (R := fun r => ∃ rs, r = .list rs ∧ rs.length ≤ 3 ∧ ∀ x ∈ rs, Is isRu x) (mv_lcR (n := 3) (R := Is isRu) (by decide) (mva_one ((mv_pickF w1 rfl (Evl.ea_cons Evl.ev_c (Evl.ea_cons Evl.ev_c (Evl.ea_cons Evl.ev_c (Evl.ea_cons Evl.ev_c (Evl.ea_cons Evl.ev_c Evl.ea_nil))))) (by decide +kernel)).imp fun r ⟨v, hv, e⟩ => ?_)) (fun x => by rfl) fun k p2 G0 G1 hp2 m0 P2 hk => ?_) fun r v H3 ⟨rs, er, hrs, hra⟩ br m3 => ?_
    · simp only [List.mem_cons, List.not_mem_nil, or_false] at hv
      rcases hv with rfl | rfl | rfl | rfl | rfl
      · exact ⟨1, by rw [e]; rfl, by decide, by decide⟩
      · exact ⟨1, by rw [e]; rfl, by decide, by decide⟩
      · exact ⟨2, by rw [e]; rfl, by decide, by decide⟩
      · exact ⟨0, by rw [e]; rfl, by decide, by decide⟩
      · exact ⟨3, by rw [e]; rfl, by decide, by decide⟩
    · have f3 := P2.dq m0.wd hp2 (m0.dq (P1.dq hw0 hp (N0.dq q3)))
      have f4 := P2.dq m0.wd hp2 (m0.dq (P1.dq hw0 hp (N0.dq q4)))
      exact mv_callM (Rs := fun rs => rs = [.bool b, .int n, .list ws, .list ms]) rfl (mva_ev (vs := [.bl b, .int n, v3, v4]) (rs := [.bool b, .int n, .list ws, .list ms]) P2.2.1 (Evl.ea_cons (Evl.ev_var rfl) (Evl.ea_cons (Evl.ev_var rfl) (Evl.ea_cons (Evl.ev_var rfl) (Evl.ea_cons (Evl.ev_var rfl) Evl.ea_nil)))) (DqL.cons (by unfold Dq; rfl) (DqL.cons (by unfold Dq; rfl) (DqL.cons f3 (DqL.cons f4 DqL.nil)))) rfl) fun rs e => ⟨⟨b, n, ws, ms, e, hn1, hn2, hws0, hwsn, hws, hmsn, hms⟩, fun r h => h⟩
    · subst er
      have P3 := P1.nx hw0 hp m3
      refine s_appM hw0 hp P3 (by omega) rfl (mv_tup (mva_cons (Ra := Is isSh) (mv_if (b := decide (0 < (i : Int))) m3.wd (Evl.et_test (Evl.ev_op (Evl.ev_var rfl) Evl.ev_c Evl.rv_I0)) (fun _ H4 m4 _ => (mv_pickF m4.wd rfl (Evl.ea_cons Evl.ev_c (Evl.ea_cons Evl.ev_c (Evl.ea_cons Evl.ev_c (Evl.ea_cons Evl.ev_c Evl.ea_nil)))) (by decide +kernel)).imp fun r ⟨v, hv, e⟩ => ?_) (fun _ H4 m4 _ => (mv_pickF m4.wd rfl (Evl.ea_cons Evl.ev_c (Evl.ea_cons Evl.ev_c (Evl.ea_cons Evl.ev_c (Evl.ea_cons Evl.ev_c Evl.ea_nil)))) (by decide +kernel)).imp fun r ⟨v, hv, e⟩ => ?_)) fun r v H4 hr br4 m4 => ?_)) fun H5 P5 => ⟨P5, _, _, rfl⟩
      · rw [e]
        exact List.all_eq_true.mp (by decide +kernel : ([V.str "", V.str "kept", V.str "dropped", V.str ""]).all (fun v => isSh (toD v)) = true) v hv
      · rw [e]
        exact List.all_eq_true.mp (by decide +kernel : ([V.str "", V.str "", V.str "", V.str "kept"]).all (fun v => isSh (toD v)) = true) v hv
      · obtain ⟨ez, rfl, hez⟩ := isSh_iff hr
        exact mva_one (mv_tupOf (mv_var m4.wd rfl (m4.dq br) ⟨rs, .inl rfl, by show 2 ≤ 100000; decide, isSt_mk hez hrs (List.all_eq_true.mpr hra)⟩))
  · obtain ⟨P1, x6, x7, rfl⟩ := P
    obtain ⟨nd, ss, hss, hlen, hall⟩ := lw_done hw0 hp P1
    have hsa : ss.all isSt = true := List.all_eq_true.mpr hall
    have hl5 : ss.length ≤ 5 := by omega
    refine q_mv (R := fun r => r = .tuple [.tuple ss, .tuple []]) (mv_tup (mva_cons (Ra := fun r => r = .tuple ss) (mv_tupOf (mv_var nd.wd rfl hss ⟨ss, .inl rfl, rfl⟩)) fun r v H3 er _ m3 => ?_)) fun r vf H3 er bf m3 => ?_
    · subst er
      exact mva_one (mv_tup (mva_nil m3.wd ⟨Nat.zero_le _, by show 2 ≤ 100000; decide, rfl⟩))
    · subst er
      have N3 := (N0.trans nd).trans m3
      refine s_retM (R := Is isRo) (mv_tup ?_) fun r v H' a b c => fin r v H' a b (N3.trans c)
      refine mva_cons (Ra := fun r => r = .tuple ss) (mv_ixE (i := 0) (ds := [.tuple ss, .tuple []]) (mv_var m3.wd rfl bf rfl) (fun H4 m4 => mv_int m4.wd Evl.ev_c rfl) rfl (by decide) rfl) fun r v H4 er _ m4 => ?_
      subst er
      refine mva_one (mv_tupOf (Mv.imp (R := fun r => IsSrt (marksOf ss) (srt (marksOf ss)) ∧ ∃ es, r = .list es ∧ es.length = (PyData.str "" :: (srt (marksOf ss)).map PyData.str).length ∧ ∀ r ∈ es, Is isUq r) (mv_lcLC (ds := PyData.str "" :: (srt (marksOf ss)).map PyData.str) (R := Is isUq) ?_ (mv_catL (A := fun es => es = [.str ""]) (B := fun es => es = (srt (marksOf ss)).map PyData.str ∧ IsSrt (marksOf ss) (srt (marksOf ss))) (mv_lst (mva_one (mv_str m4.wd Evl.ev_c ⟨one_le, _, rfl, rfl⟩))) (fun H5 m5 => (mv_lmarks (mv_var m5.wd rfl ((m4.trans m5).dq bf) rfl) hsa hl5).imp fun r ⟨e, h⟩ => ⟨_, e, rfl, h⟩) fun es fs ee ⟨ef, hi⟩ => ?_) (fun x => by rfl) fun k x v p2 G0 G1 hC hx hp2 m0 P2 hq2 => ?_) fun r ⟨hC, es, er, hle, hre⟩ => ?_))
      · exact fun hC => by
          have := srt_few hsa hl5 hC
          rw [List.length_cons, List.length_map]
          omega
      · subst ee ef
        have := srt_few hsa hl5 hi
        refine ⟨by rw [List.length_map]; show 1 + _ ≤ 100000; omega, rfl, hi⟩
      · obtain ⟨m, rfl, hm⟩ := marks_at hsa hC hx
        unfold Dq at hq2
        subst hq2
        refine mv_tup (mva_cons (Ra := fun r => r = .str m) (mv_str P2.2.1 (Evl.ev_var rfl) rfl) fun r v G2 er _ g2 => ?_)
        subst er
        exact mva_one (mv_draw (many := n) rfl (mv_int g2.wd (Evl.ev_var rfl) rfl) hn1 (by omega) fun i i0 i1 => ⟨by show 2 ≤ 100000; decide, isUq_mk hm (by omega)⟩)
      · have hf := srt_few hsa hl5 hC
        rw [List.length_cons, List.length_map] at hle
        exact ⟨es, .inl er, by show 2 ≤ 100000; decide, isRo_mk (by omega) hl5 hsa (by omega) (by omega) (List.all_eq_true.mpr hre)⟩
end
end Al
namespace Al
open PySem PySem.Spec PyProof.Rows L2
open Evl (Ex Ev EvT EvA EvL EvU EvO SpV RV RC RCL)
variable {D : Ban} {d l : Addr} {H : Hp}
/-! ### a dict of places by their marks -/
def Vk (kvs : List (Key × V)) : Prop := ∀ kv ∈ kvs, ∃ g : Int, kv.2 = .int g ∧ g.natAbs ≤ 100
theorem vk_put {kvs : List (Key × V)} {k : Key} {v : V} (h : Vk kvs) (hv : ∃ g : Int, v = .int g ∧ g.natAbs ≤ 100) : Vk (putK kvs k v) := by
  unfold putK
  split
  · intro kv hkv
    obtain ⟨kv0, h0, rfl⟩ := List.mem_map.mp hkv
    split
    · exact hv
    · exact h kv0 h0
  · intro kv hkv
    rcases List.mem_append.mp hkv with e | e
    · exact h kv e
    · rw [List.mem_singleton.mp e]
      exact hv
theorem vk_merge : ∀ (more : List (Key × V)) {kvs : List (Key × V)}, Vk kvs → Vk more → Vk (mergeK kvs more)
  | [], _, h, _ => h
  | kv :: more, kvs, h, hm => by
    show Vk (mergeK (putK kvs kv.1 kv.2) more)
    exact vk_merge more (vk_put h (hm kv List.mem_cons_self)) fun x hx => hm x (List.mem_cons_of_mem _ hx)
theorem vk_at {kvs : List (Key × V)} {k : Key} {v : V} (h : Vk kvs) (e : valV kvs k = some v) : ∃ g : Int, v = .int g ∧ g.natAbs ≤ 100 := by
  unfold valV at e
  cases hf : kvs.find? fun kv => decide (kv.1 = k) with
  | none => rw [hf] at e; cases e
  | some kv =>
    rw [hf] at e
    have e : kv.2 = v := Option.some.inj e
    rw [← e]
    exact h kv (List.mem_of_find?_eq_some hf)
theorem ups_pairs {K : PySem.W.Frag} : ∀ {us : List PyData} {ys : List V}, DqL D H us ys → us.all isUq = true → ∃ (ps : List Addr) (kvs : List (Key × V)), ys = ps.map V.ref ∧ Paired (fun p kv => SqT K H p [kV kv.1, kv.2]) ps kvs ∧ Vk kvs
  | [], _, h, _ => by
    unfold DqL at h
    exact ⟨[], [], h, .nil, fun kv hk => by cases hk⟩
  | u :: us, _, h, ha => by
    unfold DqL at h
    obtain ⟨x, r, rfl, h1, h2⟩ := h
    rw [List.all_cons, Bool.and_eq_true] at ha
    obtain ⟨m, g, rfl, hm, hg⟩ := isUq_iff ha.1
    obtain ⟨ps, kvs, rfl, hp, hk⟩ := ups_pairs h2 ha.2
    obtain ⟨b, ys, rfl, _, hb, hy⟩ := h1.tup
    obtain ⟨z1, z2, rfl, d1, d2⟩ := hy.two
    unfold Dq at d1 d2
    subst d1 d2
    refine ⟨b :: ps, (.inr m, .int g) :: kvs, rfl, .cons (Evl.st_of hb) hp, fun kv hkv => ?_⟩
    rcases List.mem_cons.mp hkv with e | e
    · rw [e]
      exact ⟨g, rfl, hg⟩
    · exact hk kv e
section
variable {K : PySem.W.Frag} {σ : L2.St} {ta tb tc te tl tm : TE} {tA : TA} {t : TT} {x y z v : V} {R Ra Rb : PyData → Prop} {r : PyData} {E : XK} {Dn : Ends} {tu tz : TS}
theorem ev_din {q : Addr} {kvs : List (Key × V)} {k : Str} (hk : Ev ta σ H (.str k)) (hd : Ev tb σ H (.ref q)) (h : H q = some (.dK kvs)) : Ev (tDIn ta tb) σ H (.bl (valV kvs (.inr k)).isSome) := fun H1 e Q w =>
  hk H1 e _ fun H2 e2 => hd H2 (e.trans e2) _ fun H3 e3 => ⟨q, _, rfl, DGet.k (k := Sum.inr k) (((e.trans e2).trans e3) _ _ h), w H3 (e2.trans e3)⟩
/-- dict(list(ups)) -/
theorem q_dict {i j : Nat} {us : List PyData} (w : Wd D d l H) (hv : σ[j]? = some (some v)) (hq : Dq D H (.tuple us) v) (hu : us.all isUq = true)
    (k : ∀ q kvs H', Nx D d l H H' → H' q = some (.dK kvs) → ¬ D q → Vk kvs → tz Dn (σ.set i (some (.ref q))) H') :
    tSeq (tAsg (tCB (fun xs H Q => ∃ (a : Addr) (ps : List Addr) (kvs : List (Key × V)), xs = [.ref a] ∧ SqL K H a (ps.map V.ref) ∧ Paired (fun p kv => SqT K H p [kV kv.1, kv.2]) ps kvs ∧ ∀ p, H p = none → Q (.ref p) (upd H p (.dK (mergeK [] kvs)))) (tCons (tCB (fun xs H Q => ∃ p ys, xs = [.ref p] ∧ (SqL K H p ys ∨ SqT K H p ys) ∧ ∀ l, H l = none → Q (.ref l) (upd H l (.lst ys))) (tCons (tVar j) tNil)) tNil)) (gName i)) tz Dn σ H := by
  unfold Dq at hq
  obtain ⟨a, xs, rfl, _, ha, hl⟩ := hq
  refine ⟨_, hv, a, xs, rfl, .inr (Evl.st_of ha), fun lp hlp => ?_⟩
  have n1 := w.new hlp (.lst xs)
  obtain ⟨ps, kvs, rfl, hp, hk⟩ := ups_pairs (K := K) (n1.dqL hl) hu
  refine ⟨lp, ps, kvs, rfl, Evl.sq_of upd_same, hp, fun q hqn => ?_⟩
  have n2 := n1.wd.new hqn (.dK (mergeK [] kvs))
  exact k q _ _ (n1.trans n2) upd_same (n1.wd.nf hqn) (vk_merge kvs (fun kv h => by cases h) hk)
end
theorem DqL.one {x : PyData} {xs : List V} (h : DqL D H [x] xs) : ∃ v, xs = [v] ∧ Dq D H x v := by
  unfold DqL at h
  obtain ⟨v, s, rfl, h1, h2⟩ := h
  unfold DqL at h2
  subst h2
  exact ⟨v, rfl, h1⟩
section
variable {P : Program} {w : World} {K : PySem.W.Frag} {mg : Str → Option Value} {base : Heap}
theorem sc_mend : FnScope ["_law_deck_here", "_law_protocol", "_law_found", "_law_states", "_law_ups", "_law_old", "_law_some", "_law_mark"] ["_law_deck_here", "_law_protocol"] (defScope (top 54)) := ⟨rfl, rfl, rfl, by decide +kernel, rfl, by decide +kernel, by decide +kernel⟩
set_option maxHeartbeats 4000000 in
theorem ok_mend (F : Def K mg "_law_mended_ups" (top 54) ["_law_deck_here", "_law_protocol"]) (B : Bl mg) (c_draw : Cal P w K mg base 1 "_law_draw" spDraw) (c_marks : Cal P w K mg base 1 "_law_marks" spLMarks) : Cal P w K mg base 2 "_law_mended_ups" (spM PrePr PostPro) := by
  refine Cal.of F sc_mend (lenM fun rs ⟨r, er, _⟩ => by rw [er]; rfl) (fun f cdv A outer s H vs Q E hr h => ?_)
  have hu := hu1 hr
  refine ⟨_, (pss_cons (ps_set (i := 2) sc_mend.nd rfl (.inl rfl) (pe_lst pa_nil))
      (pss_cons (ps_for PassesOwn.never rfl (pi_tup (pv 1)) (pg_tup rfl (pgs_cons (pg_name (i := 3) sc_mend.nd rfl (.inr rfl)) (pgs_cons (pg_name (i := 4) sc_mend.nd rfl (.inl rfl)) pgs_nil))) (pss_cons (ps_set (i := 5) sc_mend.nd rfl (.inr rfl) (pe_callTy (call_dictP rfl) (by rfl) B.dict b_dict (pa_cons (pe_callTy call_list_of (by rfl) B.list b_list (pa_cons (pv 4) pa_nil)) pa_nil)))
      (pss_cons (ps_set (i := 6) sc_mend.nd rfl (.inl rfl) (pe_op op_cat (pe_lst (pa_cons pe_str pa_nil)) (pcall c_marks hr (pa_cons (pe_tup (pa_cons (pv 3) (pa_cons (pe_tup pa_nil) pa_nil))) pa_nil))))
      (pss_one (ps_expr (pe_bm PySem.F.plainAttrs_list PySem.F.slot_list_append PySem.F.type_list_append mt_append (pv 2) (pa_cons (pe_tup (pa_cons (pv 3) (pa_cons (pe_tupleOf (by rfl) B.tuple (pe_lc (own := [("_law_mark", 7)]) (g := gName 7) (tt := tYes)
          (te := tTup (tCons (tVar 7) (tCons (tIf (tB (tDIn (tVar 7) (tVar 5))) (tDGet (tVar 5) (tVar 7)) (tCall spDraw [] E0 (tCons (tVar 0) (tCons (tCB (fun xs H Q => ∃ p ys, xs = [.ref p] ∧ (SqL K H p ys ∨ SqT K H p ys) ∧ Q (.int ys.length) H) (tCons (tVar 3) tNil)) tNil)))) tNil))) rfl sc_mend.nd (pi_list (pv 6)) (blkOk_by (N := ["_law_deck_here", "_law_protocol", "_law_found", "_law_states", "_law_ups", "_law_old", "_law_some", "_law_mark"]) (sc := defScope (top 54)) (by decide +kernel)) (fun _ _ _ _ _ => pg_name (i := 7) sc_mend.nd rfl (Or.inl rfl)) (fun _ _ _ _ _ => pts_nil)
          (fun _ _ _ _ _ => pe_tup (pa_cons (pv 7) (pa_cons (pe_ifExp (pt_cmp (pc_din hu (pv 7) (pv 5))) (pe_dget hu (pv 5) (pv 7) (fun _ _ => rfl)) (pcall c_draw hr (pa_cons (pv 0) (pa_cons (pe_callB call_len_seq (by rfl) B.len b_len (pa_cons (pv 3) pa_nil)) pa_nil)))) pa_nil))))) pa_nil))) pa_nil)))))))
      (pss_one (ps_ret (pe_tupleOf (by rfl) B.tuple (pv 2)))))), ?_⟩
  obtain ⟨D, d, l, vs', rs, rfl, hw, hq, ⟨pr, rfl, hpr⟩, q⟩ := h
  obtain ⟨v1, rfl, q1⟩ := hq.one
  obtain ⟨ra, rb, rfl, hra, hrb⟩ := isPro_iff hpr
  refine q_new fun p hp => ?_
  have L0 : Lw D d l (Is isRo) H p 0 (upd H p (.lst [])) := lw0 hw hp
  obtain ⟨a, xs, rfl, na, ha, hl⟩ := q1.tup
  refine Evl.q_forT (K := K) (a := a) (xs := xs) (Evl.ev_var rfl) (Evl.st_of (lw_at hw hp L0 na ha))
    (fun i σ' H' => Lw D d l (Is isRo) H p i H' ∧ ∃ x3 x4 x5 x6, σ' = [some (.ref d), some (.ref a), some (.ref p), x3, x4, x5, x6, none])
    (fun H1 e1 => ⟨L0.nx hw hp (L0.2.1.ex e1), none, none, none, none, rfl⟩) (fun i σ' H' _ P => Evl.st_of (lw_at hw hp P.1 na ha)) (fun i x σ' H' hi P => ?_) fun σ' H' P => ?_
  · obtain ⟨P1, x3, x4, x5, x6, rfl⟩ := P
    obtain ⟨ro, hro, hrq⟩ := hl.getV hi
    have hio : Is isRo ro := by
      have hm := List.mem_of_getElem? hro
      rcases List.mem_cons.mp hm with e | e
      · rw [e]; exact hra
      · rw [List.mem_singleton.mp e]; exact hrb
    have hlt : i < 2 := (List.getElem?_eq_some_iff.mp hro).1
    obtain ⟨ss, us, rfl, s1, s2, s3, u1, u2, u3⟩ := isRo_iff hio
    have w1 := P1.2.1
    have hrq' := P1.dq hw hp hrq
    obtain ⟨b, ys, rfl, _, hb, hy⟩ := hrq'.tup
    obtain ⟨z1, z2, rfl, d1, d2⟩ := hy.two
    refine ⟨b, _, rfl, Evl.st_of hb, rfl, z1, _, rfl, z2, [], rfl, rfl, ?_⟩
    refine q_dict (K := K) w1 rfl d2 u3 fun qa kvs H2 n2 hqa nqa hvk => ?_
    refine q_mv (R := fun r => r = .list (.str "" :: (srt (marksOf ss)).map PyData.str) ∧ IsSrt (marksOf ss) (srt (marksOf ss))) (mv_catL (A := fun es => es = [.str ""]) (B := fun es => es = (srt (marksOf ss)).map PyData.str ∧ IsSrt (marksOf ss) (srt (marksOf ss))) (mv_lst (mva_one (mv_str n2.wd Evl.ev_c ⟨one_le, _, rfl, rfl⟩))) (fun H5 m5 => (mv_lmarks (u := .tuple []) (mv_tup (mva_cons (Ra := fun r => r = .tuple ss) (mv_var m5.wd rfl ((n2.trans m5).dq d1) rfl) fun r v H6 er _ m6 => mva_one (mv_tup (mva_nil m6.wd ⟨Nat.zero_le _, by show 2 ≤ 100000; decide, by rw [er]⟩)))) s3 s2).imp fun r ⟨e, h⟩ => ⟨_, e, rfl, h⟩) fun es fs ee ⟨ef, hi⟩ => ?_) fun r vsome H3 ⟨er, hC⟩ bs n3 => ?_
    · subst ee ef
      have := srt_few s3 s2 hi
      exact ⟨by rw [List.length_map]; show 1 + _ ≤ 100000; omega, rfl, hi⟩
    · subst er
      have hf := srt_few s3 s2 hC
      have N3 := n2.trans n3
      have hq3 : H3 qa = some (.dK kvs) := n3.keep hqa fun z => nqa (n3.wd.sub _ z)
      have d1' := N3.dq d1
      refine s_appM hw hp (P1.nx hw hp N3) (by omega) rfl (mv_tup (mva_cons (Ra := fun r => r = .tuple ss) (mv_var n3.wd rfl d1' rfl) fun r v H4 er _ m4 => ?_)) fun H5 P5 => ⟨P5, _, _, _, _, rfl⟩
      subst er
      have hq4 : H4 qa = some (.dK kvs) := m4.keep hq3 fun z => nqa (m4.wd.sub _ z)
      have d1'' := m4.dq d1'
      refine mva_one (mv_tupOf ((mv_lcL (ds := .str "" :: (srt (marksOf ss)).map PyData.str) (R := Is isUq) (by rw [List.length_cons, List.length_map]; omega) (mv_var m4.wd rfl (m4.dq bs) rfl) (fun x => by rfl) fun k x v p2 G0 G1 hx hp2 m0 P2 hq2 => ?_).imp fun r ⟨es, er, hle, hre⟩ => ?_))
      · obtain ⟨m, rfl, hm⟩ := marks_at s3 hC hx
        unfold Dq at hq2
        subst hq2
        have hq5 : G1 qa = some (.dK kvs) := lw_at m0.wd hp2 P2 nqa (m0.keep hq4 fun z => nqa (m4.wd.sub _ z))
        have d15 := P2.dq m0.wd hp2 (m0.dq d1'')
        refine mv_tup (mva_cons (Ra := fun r => r = .str m) (mv_str P2.2.1 (Evl.ev_var rfl) rfl) fun r v G2 er _ g2 => ?_)
        subst er
        have hq6 : G2 qa = some (.dK kvs) := g2.keep hq5 fun z => nqa (m4.wd.sub _ z)
        refine mva_one (Mv.imp (R := fun r => ∃ g : Int, r = .int g ∧ g.natAbs ≤ 100) (mv_if (b := (valV kvs (.inr m)).isSome) g2.wd (Evl.et_B (ev_din (Evl.ev_var rfl) (Evl.ev_var rfl) hq6)) (fun hb G3 g3 e3 => ?_) (fun _ G3 g3 _ => ?_)) fun r ⟨g, e, hg⟩ => by rw [e]; exact ⟨by show 2 ≤ 100000; decide, isUq_mk hm hg⟩)
        · cases hval : valV kvs (.inr m) with
          | none => rw [hval] at hb; cases hb
          | some v =>
            obtain ⟨g, rfl, hg⟩ := vk_at hvk hval
            exact mv_int g3.wd (ev_dget (Evl.ev_var rfl) (Evl.ev_var rfl) (e3 _ _ hq6) hval) ⟨g, rfl, hg⟩
        · exact mv_draw (many := (ss.length : Int)) rfl (mv_int g3.wd (ev_lenD (Evl.ev_var rfl) ((g2.trans g3).dq d15) (.inr rfl)) rfl) (by omega) (by omega) fun i i0 i1 => ⟨i, rfl, by omega⟩
      · rw [List.length_cons, List.length_map] at hle
        exact ⟨es, .inl er, by show 2 ≤ 100000; decide, isRo_mk s1 s2 s3 (by omega) (by omega) (List.all_eq_true.mpr hre)⟩
  · obtain ⟨P1, x3, x4, x5, x6, rfl⟩ := P
    obtain ⟨nd, es, hes, hlen, hall⟩ := lw_done hw hp P1
    rw [hl.length] at hlen
    refine s_retM (R := Is isPro) (mv_tupOf (mv_var nd.wd rfl hes ⟨es, .inl rfl, ?_⟩)) fun r v H' a b c => q r v H' a b (nd.trans c)
    match es, hlen, hall with
    | [e1, e2], _, hall => exact isPro_mk (hall e1 (by simp)) (hall e2 (by simp))
end
end Al
namespace Al
open PySem PySem.Spec PyProof.Rows L2
open Evl (Ex Ev EvT EvA EvL EvU EvO SpV RV RC RCL)
variable {D : Ban} {d l : Addr} {H : Hp}
section
variable {K : PySem.W.Frag} {σ : L2.St} {ta tb tc te tl tm : TE} {tA : TA} {t : TT} {x y z v : V} {R Ra Rb : PyData → Prop} {r : PyData} {E : XK} {Dn : Ends} {tu tz : TS}
theorem q_unpM {n : Nat} {gs : TGs} {Rs : List PyData → Prop} (h : Mv D d l te σ H fun r => ∃ rs, r = .tuple rs ∧ Rs rs) (hn : ∀ rs, Rs rs → rs.length = n) (k : ∀ rs vs H', Rs rs → DqL D H' rs vs → Nx D d l H H' → gs vs σ H' fun σ' H2 => tz Dn σ' H2) : tSeq (tAsg te (gTup K n gs)) tz Dn σ H :=
  h _ fun r v H1 ⟨rs, e, hr⟩ b nx => by
    subst e
    obtain ⟨a, xs, rfl, _, ha, hl⟩ := b.tup
    exact ⟨a, xs, rfl, Evl.st_of ha, by rw [hl.length]; exact hn rs hr, k rs xs H1 hr hl nx⟩
theorem mv_lcZ {j k : Nat} {vs : List Nat} {ds es : List PyData} (hn : ds.length ≤ 40000) (hle : es.length = ds.length) (h : MvA D d l tA σ H fun rs => rs = [.tuple ds, .tuple es]) (hw : ∀ x y, wipe (((wipe σ vs).set j (some x)).set k (some y)) vs = wipe σ vs)
    (he : ∀ (i : Nat) x y v u p H0 H1, ds[i]? = some x → es[i]? = some y → H0 p = none → Nx D d l H H0 → Lw D d l R H0 p i H1 → Dq (Bp D p) H1 x v → Dq (Bp D p) H1 y u → Mv (Bp D p) d l te (((wipe σ vs).set j (some v)).set k (some u)) H1 R) :
    Mv D d l (tLc (RZ.iZipA K tA) (gTup K 2 (gCons (gName j) (gCons (gName k) gNil))) tYes te vs) σ H fun r => ∃ rs, r = .list rs ∧ rs.length = ds.length ∧ ∀ r ∈ rs, R r := fun Q q =>
  h _ fun rs us H0 e b c => by
    subst e
    obtain ⟨w1, w2, rfl, b1, b2⟩ := b.two
    obtain ⟨a1, xs, rfl, na1, ha1, hl1⟩ := b1.tup
    obtain ⟨a2, ys, rfl, na2, ha2, hl2⟩ := b2.tup
    have e1 := hl1.length
    have e2 := hl2.length
    refine ⟨a1, a2, xs, ys, rfl, .inr ⟨Evl.st_of ha1, Evl.st_of ha2, fun p hp => ?_⟩⟩
    refine ⟨fun i m H' => m = xs.length - i ∧ i ≤ xs.length ∧ Lw D d l R H0 p i H', ⟨xs.length, by simp, Nat.zero_le _, lw0 c.wd hp⟩, ?_⟩
    rintro i m H' ⟨rfl, hi, P⟩
    have q1 : SqT K H' a1 xs := Evl.st_of (lw_at c.wd hp P na1 ha1)
    have q2 : SqT K H' a2 ys := Evl.st_of (lw_at c.wd hp P na2 ha2)
    by_cases hlt : i < xs.length
    · have g1 : xs[i]? = some xs[i] := List.getElem?_eq_getElem hlt
      have g2 : ys[i]? = some (ys[i]'(by omega)) := List.getElem?_eq_getElem (by omega)
      refine .inr ⟨⟨xs, ys, _, _, q1, q2, g1, g2⟩, fun H2 => Lw D d l R H0 p (i + 1) H2, fun H2 p2 => ⟨xs.length - (i + 1), by omega, rfl, hlt, p2⟩, ?_⟩
      rintro u H2 ⟨T, x, y, rfl, nT, rfl, f1, f2⟩
      have ex := f1 _ q1
      have ey := f2 _ q2
      obtain ⟨dx, hdx, hqx⟩ := hl1.getV ex
      obtain ⟨dy, hdy, hqy⟩ := hl2.getV ey
      have P2 : Lw D d l R H0 p i (upd H' T (.tup [x, y])) := P.nx c.wd hp (P.2.1.new nT _)
      refine ⟨T, [x, y], rfl, .inl (.inl upd_same), rfl, x, [y], rfl, y, [], rfl, rfl, hw x y, ?_⟩
      exact he i dx dy x y p H0 _ hdx hdy hp c P2 (P2.dq c.wd hp hqx) (P2.dq c.wd hp hqy) _ fun r v H3 a b n => lw_next c.wd hp P2 a b n (by omega)
    · have hx : i = xs.length := by omega
      subst hx
      obtain ⟨n2, es', hq, hle', hr⟩ := lw_done c.wd hp P
      exact .inl ⟨⟨xs, ys, q1, q2, .inl (Nat.le_refl _)⟩, q _ _ H' ⟨es', rfl, by omega, hr⟩ hq (c.trans n2)⟩
theorem mv_mend {te : TE} {kd : Nat} (hd : σ[kd]? = some (some (.ref d))) (h : Mv D d l te σ H (Is isPro)) : Mv D d l (tCall (spM PrePr PostPro) [] E (tCons (tVar kd) (tCons te tNil))) σ H (Is isPro) :=
  mv_callM (Rs := fun rs => ∃ r, rs = [r] ∧ Is isPro r) hd (mva_one (h.imp fun r a => ⟨r, rfl, a⟩)) fun rs h => ⟨h, fun r a => a⟩
theorem ins_all {p : PyData → Bool} {ds : List PyData} {i : Nat} {y : PyData} (h : ds.all p = true) (hy : p y = true) : (ds.take i ++ [y] ++ ds.drop (i + 1)).all p = true := List.all_eq_true.mpr fun x hx => by
  rcases List.mem_append.mp hx with hx | hx
  · rcases List.mem_append.mp hx with hx | hx
    · exact List.all_eq_true.mp h x (List.mem_of_mem_take hx)
    · rw [List.mem_singleton.mp hx]; exact hy
  · exact List.all_eq_true.mp h x (List.mem_of_mem_drop hx)
end
theorem DqL.five' {a b c e g : PyData} {xs : List V} (h : DqL D H [a, b, c, e, g] xs) : ∃ v1 v2 v3 v4 v5, xs = [v1, v2, v3, v4, v5] ∧ Dq D H a v1 ∧ Dq D H b v2 ∧ Dq D H c v3 ∧ Dq D H e v4 ∧ Dq D H g v5 := by
  unfold DqL at h
  obtain ⟨v1, s1, rfl, h1, h⟩ := h
  unfold DqL at h
  obtain ⟨v2, s2, rfl, h2, h⟩ := h
  unfold DqL at h
  obtain ⟨v3, s3, rfl, h3, h⟩ := h
  unfold DqL at h
  obtain ⟨v4, s4, rfl, h4, h⟩ := h
  obtain ⟨v5, rfl, h5⟩ := DqL.one h
  exact ⟨v1, v2, v3, v4, v5, rfl, h1, h2, h3, h4, h5⟩
section
variable {P : Program} {w : World} {K : PySem.W.Frag} {mg : Str → Option Value} {base : Heap}
theorem sc_chg : FnScope ["_law_deck_here", "_law_protocol", "_law_k", "_law_states", "_law_ups", "_law_at", "_law_way", "_law_end", "_law_rules", "_law_pair", "_law_other", "_law_r", "_law_cause", "_law_mark", "_law_forced", "_law_letters", "_law_to"] ["_law_deck_here", "_law_protocol"] (defScope (top 55)) := ⟨rfl, rfl, rfl, by decide +kernel, rfl, by decide +kernel, by decide +kernel⟩
set_option maxHeartbeats 4000000 in
theorem ok_chg (F : Def K mg "_law_changed" (top 55) ["_law_deck_here", "_law_protocol"]) (B : Bl mg) (c_draw : Cal P w K mg base 1 "_law_draw" spDraw) (c_pick : Cal P w K mg base 2 "_law_pick" (spM PrePick PostPick)) (c_ins : Cal P w K mg base 1 "_law_instead" (spN PreIns PostIns)) (c_mend : Cal P w K mg base 2 "_law_mended_ups" (spM PrePr PostPro)) : Cal P w K mg base 3 "_law_changed" (spM PrePr PostPro) := by
  refine Cal.of F sc_chg (lenM fun rs ⟨r, er, _⟩ => by rw [er]; rfl) (fun f cdv A outer s H vs Q E hr h => ?_)
  have hu := hu1 hr
  refine ⟨_, (pss_cons (ps_set (i := 2) sc_chg.nd rfl (.inl rfl) (pcall c_draw hr (pa_cons (pv 0) (pa_cons pe_int pa_nil))))
      (pss_cons (ps_asg (pe_ix ix_tup (pv 1) (pv 2) (fun _ _ => rfl)) (pg_tup rfl (pgs_cons (pg_name (i := 3) sc_chg.nd rfl (.inl rfl)) (pgs_cons (pg_name (i := 4) sc_chg.nd rfl (.inl rfl)) pgs_nil))))
      (pss_cons (ps_par (i := 5) (j := 6) rfl sc_chg.nd rfl rfl (by decide) rfl rfl (pa_cons (pcall c_draw hr (pa_cons (pv 0) (pa_cons (pe_callB call_len_seq (by rfl) B.len b_len (pa_cons (pv 3) pa_nil)) pa_nil))) (pa_cons (pcall c_draw hr (pa_cons (pv 0) (pa_cons pe_int pa_nil))) pa_nil)) (by rfl))
      (pss_cons (ps_asg (pe_ix ix_tup (pv 3) (pv 5) (fun _ _ => rfl)) (pg_tup rfl (pgs_cons (pg_name (i := 7) sc_chg.nd rfl (.inl rfl)) (pgs_cons (pg_name (i := 8) sc_chg.nd rfl (.inl rfl)) pgs_nil))))
      (pss_cons (ps_if (pt_cmpR op_eq (pv 6) pe_int (nomark _)) (pss_cons (ps_set (i := 4) sc_chg.nd rfl (.inl rfl) (pcall c_ins hr (pa_cons (pv 4) (pa_cons (pcall c_draw hr (pa_cons (pv 0) (pa_cons (pe_callB call_len_seq (by rfl) B.len b_len (pa_cons (pv 4) pa_nil)) pa_nil))) (pa_cons (pe_tup (pa_cons (pe_ix ix_tup (pcall c_pick hr (pa_cons (pv 0) (pa_cons (pv 4) pa_nil))) pe_int (fun _ _ => rfl)) (pa_cons (pcall c_draw hr (pa_cons (pv 0) (pa_cons (pe_callB call_len_seq (by rfl) B.len b_len (pa_cons (pv 3) pa_nil)) pa_nil))) pa_nil))) pa_nil)))))
      (pss_one (ps_set (i := 4) sc_chg.nd rfl (.inl rfl) (pe_tupleOf (by rfl) B.tuple (pe_lc (own := [("_law_pair", 9), ("_law_other", 10)]) (g := gTup K 2 (gCons (gName 9) (gCons (gName 10) gNil))) (tt := tYes) (te := tTup (tCons (tOp (rIxT K) (tVar 9) (tC (.int 0))) (tCons (tOp (rIxT K) (tVar 10) (tC (.int 1))) tNil))) rfl sc_chg.nd (RZ.pi_zipA (by rfl) B.zip (pa_cons (pe_ix ix_tup (pe_ix ix_tup (pv 1) (pv 2) (fun _ _ => rfl)) pe_int (fun _ _ => rfl)) (pa_cons (pv 4) pa_nil))) (blkOk_by (N := ["_law_deck_here", "_law_protocol", "_law_k", "_law_states", "_law_ups", "_law_at", "_law_way", "_law_end", "_law_rules", "_law_pair", "_law_other", "_law_r", "_law_cause", "_law_mark", "_law_forced", "_law_letters", "_law_to"]) (sc := defScope (top 55)) (by decide +kernel))
        (fun _ _ _ _ _ => pg_tup rfl (pgs_cons (pg_name (i := 9) sc_chg.nd rfl (Or.inl rfl)) (pgs_cons (pg_name (i := 10) sc_chg.nd rfl (Or.inl rfl)) pgs_nil))) (fun _ _ _ _ _ => pts_nil) (fun _ _ _ _ _ => pe_tup (pa_cons (pe_ix ix_tup (pv 9) pe_int (fun _ _ => rfl)) (pa_cons (pe_ix ix_tup (pv 10) pe_int (fun _ _ => rfl)) pa_nil)))))))) (pss_one (ps_if (pt_cmpR (op_neNilT hu) (pv 8) (pe_tup pa_nil) (nomark _)) (pss_cons (ps_set (i := 11) sc_chg.nd rfl (.inl rfl) (pcall c_draw hr (pa_cons (pv 0) (pa_cons (pe_callB call_len_seq (by rfl) B.len b_len (pa_cons (pv 8) pa_nil)) pa_nil))))
      (pss_cons (ps_asg (pe_ix ix_tup (pv 8) (pv 11) (fun _ _ => rfl)) (pg_tup rfl (pgs_cons (pg_name (i := 12) sc_chg.nd rfl (.inl rfl)) (pgs_cons (pg_name (i := 13) sc_chg.nd rfl (.inl rfl)) (pgs_cons (pg_name (i := 14) sc_chg.nd rfl (.inl rfl)) (pgs_cons (pg_name (i := 15) sc_chg.nd rfl (.inl rfl)) (pgs_cons (pg_name (i := 16) sc_chg.nd rfl (.inl rfl)) pgs_nil)))))))
      (pss_cons (ps_if (pt_cmpR op_eq (pv 6) pe_int (nomark _)) (pss_one (ps_set (i := 8) sc_chg.nd rfl (.inl rfl) (pe_op op_catA (pe_slice sl_tupA (pv 8) po_none (po_some (pv 11))) (pe_slice sl_tupA (pv 8) (po_some (pe_op op_add (pv 11) pe_int)) po_none)))) (pss_one (ps_if (pt_cmpR op_eq (pv 6) pe_int (nomark _)) (pss_one (ps_set (i := 8) sc_chg.nd rfl (.inl rfl) (pcall c_ins hr (pa_cons (pv 8) (pa_cons (pv 11) (pa_cons (pe_tup (pa_cons (pv 12) (pa_cons (pv 13) (pa_cons (pe_and (pe_cmpR op_ne (pv 13) pe_str (nomark _)) (pe_one (pe_not (pv 14)))) (pa_cons (pv 15) (pa_cons (pv 16) pa_nil)))))) pa_nil)))))) (pss_one (ps_set (i := 8) sc_chg.nd rfl (.inl rfl) (pcall c_ins hr (pa_cons (pv 8) (pa_cons (pv 11) (pa_cons (pe_tup (pa_cons (pv 12) (pa_cons (pv 13) (pa_cons (pv 14) (pa_cons (pe_slice sl_tupA (pv 15) po_none (po_some (pe_un un_neg pe_int))) (pa_cons (pcall c_draw hr (pa_cons (pv 0) (pa_cons (pe_callB call_len_seq (by rfl) B.len b_len (pa_cons (pv 3) pa_nil)) pa_nil))) pa_nil)))))) pa_nil)))))))))
      (pss_one (ps_set (i := 3) sc_chg.nd rfl (.inl rfl) (pcall c_ins hr (pa_cons (pv 3) (pa_cons (pv 5) (pa_cons (pe_tup (pa_cons (pv 7) (pa_cons (pv 8) pa_nil))) pa_nil))))))))) pss_nil)))
      (pss_one (ps_ret (pcall c_mend hr (pa_cons (pv 0) (pa_cons (pcall c_ins hr (pa_cons (pv 1) (pa_cons (pv 2) (pa_cons (pe_tup (pa_cons (pv 3) (pa_cons (pv 4) pa_nil))) pa_nil)))) pa_nil)))))))))), ?_⟩
  obtain ⟨D, d, l, vs', rs, rfl, hw, hq, ⟨pr, rfl, hpr⟩, q⟩ := h
  obtain ⟨v1, rfl, q1⟩ := hq.one
  obtain ⟨ra, rb, rfl, hra, hrb⟩ := isPro_iff hpr
  have fin : ∀ r v H', Is isPro r → Dq D H' r v → Nx D d l H H' → Q v H' := fun r v H' a b c => q r v H' a b c
  refine q_mv (mv_drawC hw rfl) fun r v H1 ⟨i, er, i0, i1⟩ b N => ?_
  subst er
  unfold Dq at b
  subst b
  obtain ⟨ro, hro, hio⟩ : ∃ ro, [ra, rb][i.toNat]? = some ro ∧ Is isRo ro := by
    have : i = 0 ∨ i = 1 := by omega
    rcases this with rfl | rfl
    · exact ⟨ra, rfl, hra⟩
    · exact ⟨rb, rfl, hrb⟩
  obtain ⟨ss, us, rfl, s1, s2, s3, u1, u2, u3⟩ := isRo_iff hio
  -- the last statement
  have tail : ∀ (G : Hp) (v3 v4 : V) (x5 x6 x7 x8 x9 x10 x11 x12 x13 x14 x15 x16 : Option V) (ss' us' : List PyData), Nx D d l H G → Dq D G (.tuple ss') v3 → Dq D G (.tuple us') v4 → Is isRo (.tuple [.tuple ss', .tuple us']) →
      tRet (tCall (spM PrePr PostPro) [] E0 (tCons (tVar 0) (tCons (tCall (spN PreIns PostIns) [] E0 (tCons (tVar 1) (tCons (tVar 2) (tCons (tTup (tCons (tVar 3) (tCons (tVar 4) tNil))) tNil)))) tNil)))
        { nx := fun _ H' => Q .non H', rt := Q } [some (.ref d), some v1, some (.int i), some v3, some v4, x5, x6, x7, x8, x9, x10, x11, x12, x13, x14, x15, x16] G := fun G v3 v4 _ _ _ _ _ _ _ _ _ _ _ _ ss' us' NG b3 b4 hr => by
    refine s_retM (mv_mend rfl (mv_instead (ds := [ra, rb]) (i := i) (Ra := Is isRo) (mv_var NG.wd rfl (NG.dq q1) rfl) (fun H3 n3 => mv_int n3.wd (Evl.ev_var rfl) rfl) (fun H3 n3 => mv_tup (mva_ev (vs := [v3, v4]) (rs := [.tuple ss', .tuple us']) n3.wd (Evl.ea_cons (Evl.ev_var rfl) (Evl.ea_cons (Evl.ev_var rfl) Evl.ea_nil)) (DqL.cons (n3.dq b3) (DqL.cons (n3.dq b4) DqL.nil)) ⟨by show 2 ≤ 100000; decide, hr⟩)) i0 (by show i < 2; exact i1) (by show 2 ≤ 90000; decide) fun x hx => ?_)) fun r v H' a b c => fin r v H' a b (NG.trans c)
    have : i = 0 ∨ i = 1 := by omega
    rcases this with rfl | rfl
    · exact isPro_mk hx hrb
    · exact isPro_mk hra hx
  refine q_unpM (K := K) (Rs := fun rs => rs = [.tuple ss, .tuple us]) (mv_ixE (ds := [ra, rb]) (i := i) (mv_var N.wd rfl (N.dq q1) rfl) (fun H3 n3 => mv_int n3.wd (Evl.ev_var rfl) rfl) hro i0 ⟨_, rfl, rfl⟩) (fun rs e => by rw [e]; rfl) fun rs vs H2 er bl n2 => ?_
  subst er
  obtain ⟨v3, v4, rfl, b3, b4⟩ := bl.two
  refine ⟨v3, _, rfl, v4, [], rfl, rfl, ?_⟩
  show tSeq _ _ _ [some (.ref d), some v1, some (.int i), some v3, some v4, none, none, none, none, none, none, none, none, none, none, none, none] H2
  have N2 := N.trans n2
  refine q_two (Ra := fun r => ∃ i : Int, r = .int i ∧ 0 ≤ i ∧ i < ss.length) (Rb := fun r => ∃ i : Int, r = .int i ∧ 0 ≤ i ∧ i < 4) (mv_draw rfl (mv_int N2.wd (ev_lenD (Evl.ev_var rfl) b3 (.inr rfl)) rfl) (by omega) (by omega) fun i a b => ⟨i, rfl, a, b⟩) (fun H3 n3 => mv_drawC n3.wd rfl) fun r5 r6 v5 v6 H3 ⟨at', e5, a0, a1⟩ ⟨way, e6, _, _⟩ c5 c6 n3 => ?_
  subst e5 e6
  unfold Dq at c5 c6
  subst c5 c6
  show tSeq _ _ _ [some (.ref d), some v1, some (.int i), some v3, some v4, some (.int at'), some (.int way), none, none, none, none, none, none, none, none, none, none] H3
  have N3 := N2.trans n3
  have b3' := n3.dq b3
  have b4' := n3.dq b4
  have hat : at'.toNat < ss.length := by omega
  obtain ⟨ez, rls, hsE, hez, hrl, hra2⟩ := isSt_iff (List.all_eq_true.mp s3 _ (List.getElem_mem hat))
  have hsat : ss[at'.toNat]? = some (.tuple [.str ez, .tuple rls]) := by rw [List.getElem?_eq_getElem hat, hsE]
  refine q_unpM (K := K) (Rs := fun rs => rs = [.str ez, .tuple rls]) (mv_ixE (ds := ss) (i := at') (mv_var N3.wd rfl b3' rfl) (fun H3 n3 => mv_int n3.wd (Evl.ev_var rfl) rfl) hsat a0 ⟨_, rfl, rfl⟩) (fun rs e => by rw [e]; rfl) fun rs vs H4 er bl4 n4 => ?_
  subst er
  obtain ⟨v7, v8, rfl, b7, b8⟩ := bl4.two
  refine ⟨v7, _, rfl, v8, [], rfl, rfl, ?_⟩
  show tSeq _ _ _ [some (.ref d), some v1, some (.int i), some v3, some v4, some (.int at'), some (.int way), some v7, some v8, none, none, none, none, none, none, none, none] H4
  unfold Dq at b7
  subst b7
  have N4 := N3.trans n4
  have c3 := n4.dq b3'
  have c4 := n4.dq b4'
  refine Evl.q_if (b := decide (V.int way = V.int 0)) (Evl.et_test (Evl.ev_op (Evl.ev_var rfl) Evl.ev_c (Evl.rv_eq rfl))) (fun _ H5 e5 => ?_) (fun _ H5 e5 => ?_)
  · have n5 := N4.wd.ex e5
    have N5 := N4.trans n5
    have d3 := n5.dq c3
    have d4 := n5.dq c4
    -- instead(ups, draw, (pick(ups)[0], draw))
    refine q_mv (R := fun r => ∃ us', r = .tuple us' ∧ us'.length = us.length ∧ us'.all isUq = true) (mv_callN (Rs := fun rs => ∃ (k : Int) (x : PyData), rs = [.tuple us, .int k, x] ∧ 0 ≤ k ∧ k < us.length ∧ Is isUq x) (mva_cons (Ra := fun r => r = .tuple us) (mv_var N5.wd rfl d4 rfl) fun r v H6 er _ m6 => ?_) fun rs ⟨k, x, e, k0, k1, hx⟩ => ⟨⟨us, k, x, e, k0, k1, by omega⟩, fun r ⟨ds', i', x', e', er⟩ => ?_⟩) fun r v4' H6 ⟨us', er, hul, hua⟩ b4n m6 => ?_
    · subst er
      refine mva_cons (Ra := fun r => ∃ k : Int, r = .int k ∧ 0 ≤ k ∧ k < us.length) (mv_draw rfl (mv_int m6.wd (ev_lenD (Evl.ev_var rfl) (m6.dq d4) (.inr rfl)) rfl) (by omega) (by omega) fun i a b => ⟨i, rfl, a, b⟩) fun r v H7 ⟨k, er, k0, k1⟩ _ m7 => ?_
      subst er
      have m67 := m6.trans m7
      refine mva_one (mv_tup (mva_cons (Ra := Is isSh) (fun Q1 q1' => ?_) fun r v H8 hr8 _ m8 => ?_))
      · refine mv_pickV (ds := us) (R := Is isUq) rfl (mv_var m67.wd rfl (m67.dq d4) (.inr rfl)) (fun e => by rw [e] at u1; simp at u1) (by omega) (fun r hr => List.all_eq_true.mp u3 r hr) _ fun r v H8 hr8 bq m8 => ?_
        obtain ⟨m, g, rfl, hm, hg⟩ := isUq_iff hr8
        obtain ⟨pa, pxs, rfl, _, hpa, hpl⟩ := bq.tup
        obtain ⟨z1, z2, rfl, dz1, dz2⟩ := hpl.two
        exact ⟨pa, _, 0, z1, rfl, rfl, Evl.st_of hpa, by rfl, q1' (.str m) z1 H8 hm dz1 m8⟩
      · obtain ⟨mz, rfl, hmz⟩ := isSh_iff hr8
        exact mva_one (mv_draw (many := (ss.length : Int)) rfl (mv_int m8.wd (ev_lenD (Evl.ev_var rfl) ((m67.trans m8).dq d3) (.inr rfl)) rfl) (by omega) (by omega) fun i i0 i1 => ⟨by show 2 ≤ 100000; decide, k, _, rfl, k0, k1, isUq_mk hmz (by omega)⟩)
    · rw [e] at e'
      injection e' with e1 e'
      injection e1 with e1
      injection e' with e2 e'
      injection e2 with e2
      injection e' with e3 e'
      subst e1 e2 e3
      exact ⟨_, er, len_ins (List.getElem?_eq_getElem (show k.toNat < us.length by omega)), ins_all u3 hx⟩
    · subst er
      have N6 := N5.trans m6
      show tAsg _ _ _ [some (.ref d), some v1, some (.int i), some v3, some v4', some (.int at'), some (.int way), some (.str ez), some v8, none, none, none, none, none, none, none, none] H6
      refine s_mv (R := fun r => ∃ us2, r = .tuple us2 ∧ us2.length = us.length ∧ us2.all isUq = true) (mv_tupOf ((mv_lcZ (K := K) (ds := us) (es := us') (R := Is isUq) (by omega) hul (mva_cons (Ra := fun r => r = .tuple us) (mv_ixE (ds := [.tuple ss, .tuple us]) (i := 1) (mv_ixE (ds := [ra, rb]) (i := i) (mv_var N6.wd rfl (N6.dq q1) rfl) (fun H3 n3 => mv_int n3.wd (Evl.ev_var rfl) rfl) hro i0 rfl) (fun H3 n3 => mv_int n3.wd Evl.ev_c rfl) rfl (by decide) rfl) fun r v H7 er _ m7 => mva_one (mv_var m7.wd rfl (m7.dq b4n) (by rw [er]))) (fun x y => by rfl) fun k x y v u p G0 G1 hx hy hp m0 P hqx hqy => ?_).imp fun r ⟨es, er, hle, hre⟩ => ?_)) fun r v H7 ⟨us2, er, hl2, ha2⟩ b7 m7 => ?_
      · obtain ⟨m, g, rfl, hm, hg⟩ := isUq_iff (List.all_eq_true.mp u3 x (List.mem_of_getElem? hx))
        obtain ⟨m', g', rfl, hm', hg'⟩ := isUq_iff (List.all_eq_true.mp hua y (List.mem_of_getElem? hy))
        refine mv_tup (mva_cons (Ra := fun r => r = .str m) (mv_ixE (ds := [.str m, .int g]) (i := 0) (mv_var P.2.1 rfl hqx rfl) (fun H3 n3 => mv_int n3.wd Evl.ev_c rfl) rfl (by decide) rfl) fun r v H8 er _ m8 => ?_)
        subst er
        exact mva_one (mv_ixE (ds := [.str m', .int g']) (i := 1) (mv_var m8.wd rfl (m8.dq hqy) rfl) (fun H3 n3 => mv_int n3.wd Evl.ev_c rfl) rfl (by decide) ⟨by show 2 ≤ 100000; decide, isUq_mk hm hg'⟩)
      · exact ⟨es, .inl er, es, rfl, hle, List.all_eq_true.mpr hre⟩
      · subst er
        exact tail H7 v3 v _ _ _ _ _ _ _ _ _ _ _ _ ss us2 (N6.trans m7) ((m6.trans m7).dq d3) b7 (isRo_mk s1 s2 s3 (by omega) (by omega) ha2)
  · have n5 := N4.wd.ex e5
    have N5 := N4.trans n5
    have d3 := n5.dq c3
    have d4 := n5.dq c4
    have d8 := n5.dq b8
    obtain ⟨a8, xs8, rfl, na8, ha8, hl8⟩ := d8.tup
    refine Evl.s_when (b := !xs8.isEmpty) (Evl.et_test (Evl.ev_opU (Evl.ev_var rfl) (Evl.eu_tup Evl.ea_nil (by decide)) fun q H1 hq e => rv_nnilT (Evl.st_of (e _ _ ha8)) (Evl.st_of hq))) (fun hb H6 e6 => ?_) (fun _ H6 e6 => ?_)
    · have n6 := N5.wd.ex e6
      have N6 := N5.trans n6
      have f3 := n6.dq d3
      have f4 := n6.dq d4
      have f8 := n6.dq d8
      have hpos : 0 < rls.length := by
        rw [← hl8.length]
        cases xs8 with
        | nil => cases hb
        | cons a b => exact Nat.succ_pos _
      -- states, with these rules
      have rest : ∀ (G : Hp) (v8 : V) (x9 x10 x11 x12 x13 x14 x15 x16 : Option V) (rls' : List PyData) (Dn : Ends), Nx D d l H G → Nx D d l H6 G → Dq D G (.tuple rls') v8 → rls'.length ≤ 3 → rls'.all isRu = true →
          (∀ (G' : Hp) (v3 : V) (ss' : List PyData), Nx D d l H G' → Nx D d l H6 G' → Dq D G' (.tuple ss') v3 → Is isRo (.tuple [.tuple ss', .tuple us]) → Dn.nx [some (.ref d), some v1, some (.int i), some v3, some v4, some (.int at'), some (.int way), some (.str ez), some v8, x9, x10, x11, x12, x13, x14, x15, x16] G') →
          tAsg (tCall (spN PreIns PostIns) [] E0 (tCons (tVar 3) (tCons (tVar 5) (tCons (tTup (tCons (tVar 7) (tCons (tVar 8) tNil))) tNil)))) (gName 3) Dn [some (.ref d), some v1, some (.int i), some v3, some v4, some (.int at'), some (.int way), some (.str ez), some v8, x9, x10, x11, x12, x13, x14, x15, x16] G := fun G v8 _ _ _ _ _ _ _ _ rls' Dn NG NG6 b8' hl' ha' k => by
        refine s_mv (R := fun r => ∃ ss', r = .tuple ss' ∧ ss'.length = ss.length ∧ ss'.all isSt = true) (mv_instead (ds := ss) (i := at') (Ra := Is isSt) (mv_var NG.wd rfl (NG6.dq f3) rfl) (fun H3 n3 => mv_int n3.wd (Evl.ev_var rfl) rfl) (fun H3 n3 => mv_tup (mva_ev (vs := [.str ez, v8]) (rs := [.str ez, .tuple rls']) n3.wd (Evl.ea_cons (Evl.ev_var rfl) (Evl.ea_cons (Evl.ev_var rfl) Evl.ea_nil)) (DqL.cons (by unfold Dq; rfl) (DqL.cons (n3.dq b8') DqL.nil)) ⟨by show 2 ≤ 100000; decide, isSt_mk hez hl' ha'⟩)) a0 a1 (by omega) fun x hx => ⟨_, rfl, len_ins hsat, ins_all s3 hx⟩) fun r v H' ⟨ss', er, h1, h2⟩ b c => ?_
        subst er
        exact k H' v ss' (NG.trans c) (NG6.trans c) b (isRo_mk (by omega) (by omega) h2 u1 u2 u3)
      refine q_mv (R := fun r => ∃ i : Int, r = .int i ∧ 0 ≤ i ∧ i < rls.length) (mv_draw rfl (mv_int N6.wd (ev_lenD (Evl.ev_var rfl) f8 (.inr rfl)) rfl) (by omega) (by omega) fun i a b => ⟨i, rfl, a, b⟩) fun r v H7 ⟨rr, er, r0, r1⟩ b m7 => ?_
      subst er
      unfold Dq at b
      subst b
      show tSeq _ _ _ [some (.ref d), some v1, some (.int i), some v3, some v4, some (.int at'), some (.int way), some (.str ez), some (.ref a8), none, none, some (.int rr), none, none, none, none, none] H7
      have hrr : rr.toNat < rls.length := by omega
      obtain ⟨cs, mz, fz, ls, gz, hrE, hc1, hc2, hmz, hl1, hl2, hgz⟩ := isRu_iff (List.all_eq_true.mp hra2 _ (List.getElem_mem hrr))
      have hrat : rls[rr.toNat]? = some (.tuple [.tuple cs, .str mz, .bool fz, .tuple ls, .int gz]) := by rw [List.getElem?_eq_getElem hrr, hrE]
      have g8 := m7.dq f8
      refine q_unpM (K := K) (Rs := fun rs => rs = [.tuple cs, .str mz, .bool fz, .tuple ls, .int gz]) (mv_ixE (ds := rls) (i := rr) (mv_var m7.wd rfl g8 rfl) (fun H3 n3 => mv_int n3.wd (Evl.ev_var rfl) rfl) hrat r0 ⟨_, rfl, rfl⟩) (fun rs e => by rw [e]; rfl) fun rs vs H8 er bl8 m8 => ?_
      subst er
      obtain ⟨v12, v13, v14, v15, v16, rfl, k12, k13, k14, k15, k16⟩ := bl8.five'
      refine ⟨v12, _, rfl, v13, _, rfl, v14, _, rfl, v15, _, rfl, v16, [], rfl, rfl, ?_⟩
      show tSeq _ _ _ [some (.ref d), some v1, some (.int i), some v3, some v4, some (.int at'), some (.int way), some (.str ez), some (.ref a8), none, none, some (.int rr), some v12, some v13, some v14, some v15, some v16] H8
      unfold Dq at k13 k14 k16
      subst k13 k14 k16
      have M8 := m7.trans m8
      have h8 := m8.dq g8
      obtain ⟨rn, rfl⟩ : ∃ rn : Nat, rr = rn := ⟨rr.toNat, by omega⟩
      have done : ∀ (G' : Hp) (v3 : V) (ss' : List PyData) (x8 x9 x10 x11 x12 x13 x14 x15 x16 : Option V), Nx D d l H G' → Nx D d l H6 G' → Dq D G' (.tuple ss') v3 → Is isRo (.tuple [.tuple ss', .tuple us]) →
          tRet (tCall (spM PrePr PostPro) [] E0 (tCons (tVar 0) (tCons (tCall (spN PreIns PostIns) [] E0 (tCons (tVar 1) (tCons (tVar 2) (tCons (tTup (tCons (tVar 3) (tCons (tVar 4) tNil))) tNil)))) tNil)))
          { nx := fun _ H' => Q .non H', rt := Q } [some (.ref d), some v1, some (.int i), some v3, some v4, some (.int at'), some (.int way), some (.str ez), x8, x9, x10, x11, x12, x13, x14, x15, x16] G' := fun G' v3 ss' _ _ _ _ _ _ _ _ _ NG NG6 b3 hr => tail G' v3 v4 _ _ _ _ _ _ _ _ _ _ _ _ ss' us NG b3 (NG6.dq f4) hr
      refine Evl.q_if (b := decide (V.int way = V.int 1)) (Evl.et_test (Evl.ev_op (Evl.ev_var rfl) Evl.ev_c (Evl.rv_eq rfl))) (fun _ H9 e9 => ?_) (fun _ H9 e9 => ?_)
      · have M9 := M8.ex e9
        have j8 := (M8.wd.ex e9).dq h8
        refine s_mv (R := fun r => ∃ es, r = .tuple es ∧ es.length ≤ 3 ∧ es.all isRu = true) (mv_catA (A := fun es => es = rls.take rn) (B := fun es => es = rls.drop (rn + 1)) (mv_slA (A := fun es => es = rls) (lo := none) (hi := some (rn : Int)) (mv_var M9.wd rfl j8 ⟨rls, rfl, rfl⟩) (fun _ _ => Evl.eo_none) (fun _ _ => Evl.eo_some (Evl.ev_var rfl)) fun es e => ⟨_, rfl, by rw [e]; exact cutD_to rls rn⟩) (fun G3 n3 => mv_slA (A := fun es => es = rls) (lo := some ((rn + 1 : Nat) : Int)) (hi := none) (mv_var n3.wd rfl (n3.dq j8) ⟨rls, rfl, rfl⟩) (fun _ _ => Evl.eo_some (Evl.ev_is (ev_add (i := (rn : Int)) (j := 1) (Evl.ev_var rfl) Evl.ev_c) (by rfl))) (fun _ _ => Evl.eo_none) fun es e => ⟨_, rfl, by rw [e]; exact cutD_from rls (rn + 1)⟩) fun es fs ee ef => ?_) fun r v G ⟨es, er, hle, hae⟩ bG nG => ?_
        · subst ee ef
          refine ⟨by rw [List.length_take, List.length_drop]; omega, _, rfl, by rw [List.length_append, List.length_take, List.length_drop]; omega, List.all_eq_true.mpr fun x hx => ?_⟩
          rcases List.mem_append.mp hx with hx | hx
          · exact List.all_eq_true.mp hra2 x (List.mem_of_mem_take hx)
          · exact List.all_eq_true.mp hra2 x (List.mem_of_mem_drop hx)
        · subst er
          exact rest G v _ _ _ _ _ _ _ _ es _ (N6.trans (M9.trans nG)) (M9.trans nG) bG hle hae fun G' v3 ss' a b c e => done G' v3 ss' _ _ _ _ _ _ _ _ _ a b c e
      · refine Evl.s_if (b := decide (V.int way = V.int 2)) (Evl.et_test (Evl.ev_op (Evl.ev_var rfl) Evl.ev_c (Evl.rv_eq rfl))) (fun _ H10 e10 => ?_) (fun _ H10 e10 => ?_)
        · have n10 := M8.wd.ex (e9.trans e10)
          have M10 := M8.trans n10
          have j8 := n10.dq h8
          have j12 := n10.dq k12
          have j15 := n10.dq k15
          refine s_mv (R := fun r => ∃ es, r = .tuple es ∧ es.length ≤ 3 ∧ es.all isRu = true) (mv_instead (ds := rls) (i := (rn : Int)) (Ra := Is isRu) (mv_var M10.wd rfl j8 rfl) (fun G3 n3 => mv_int n3.wd (Evl.ev_var rfl) rfl) (fun G3 n3 => mv_tup (mva_cons (Ra := fun r => r = .tuple cs) (mv_var n3.wd rfl (n3.dq j12) rfl) fun r v G4 er _ n4 => ?_)) r0 r1 (by omega) fun x hx => ⟨_, rfl, by rw [len_ins hrat]; exact hrl, ins_all hra2 hx⟩) fun r v G ⟨es, er, hle, hae⟩ bG nG => ?_
          · subst er
            refine mva_cons (Ra := fun r => r = .str mz) (mv_str n4.wd (Evl.ev_var rfl) rfl) fun r v G5 er _ n5 => ?_
            subst er
            refine mva_cons (Ra := fun r => ∃ b, r = .bool b) (mv_bl n5.wd (Evl.ev_andV (Evl.ev_op (Evl.ev_var rfl) Evl.ev_c (Evl.rv_ne rfl)) fun _ => Evl.ev_notV (Evl.ev_var rfl)) ⟨_, rfl⟩) fun r v G6 ⟨fb, er⟩ _ n6 => ?_
            subst er
            refine mva_cons (Ra := fun r => r = .tuple ls) (mv_var n6.wd rfl ((((n3.trans n4).trans n5).trans n6).dq j15) rfl) fun r v G7 er _ n7 => ?_
            subst er
            exact mva_one (mv_int n7.wd (Evl.ev_var rfl) ⟨by show 5 ≤ 100000; decide, isRu_mk hc1 hc2 hmz hl1 hl2 hgz⟩)
          · subst er
            exact rest G v _ _ _ _ _ _ _ _ es _ (N6.trans (M10.trans nG)) (M10.trans nG) bG hle hae fun G' v3 ss' a b c e => done G' v3 ss' _ _ _ _ _ _ _ _ _ a b c e
        · have n10 := M8.wd.ex (e9.trans e10)
          have M10 := M8.trans n10
          have j3 := M10.dq f3
          have j8 := n10.dq h8
          have j12 := n10.dq k12
          have j15 := n10.dq k15
          refine s_mv (R := fun r => ∃ es, r = .tuple es ∧ es.length ≤ 3 ∧ es.all isRu = true) (mv_instead (ds := rls) (i := (rn : Int)) (Ra := Is isRu) (mv_var M10.wd rfl j8 rfl) (fun G3 n3 => mv_int n3.wd (Evl.ev_var rfl) rfl) (fun G3 n3 => mv_tup (mva_cons (Ra := fun r => r = .tuple cs) (mv_var n3.wd rfl (n3.dq j12) rfl) fun r v G4 er _ n4 => ?_)) r0 r1 (by omega) fun x hx => ⟨_, rfl, by rw [len_ins hrat]; exact hrl, ins_all hra2 hx⟩) fun r v G ⟨es, er, hle, hae⟩ bG nG => ?_
          · subst er
            refine mva_cons (Ra := fun r => r = .str mz) (mv_str n4.wd (Evl.ev_var rfl) rfl) fun r v G5 er _ n5 => ?_
            subst er
            refine mva_cons (Ra := fun r => r = .bool fz) (mv_bl n5.wd (Evl.ev_var rfl) rfl) fun r v G6 er _ n6 => ?_
            subst er
            have n36 := ((n3.trans n4).trans n5).trans n6
            refine mva_cons (Ra := fun r => r = .tuple (ls.take (ls.length - 1))) (mv_slA (A := fun es => es = ls) (lo := none) (hi := some (-1)) (mv_var n6.wd rfl (n36.dq j15) ⟨ls, rfl, rfl⟩) (fun _ _ => Evl.eo_none) (fun _ _ => Evl.eo_some (Evl.ev_un Evl.ev_c Evl.ru_neg)) fun es e => by rw [e, cutD_but]) fun r v G7 er _ n7 => ?_
            subst er
            exact mva_one (mv_draw (many := (ss.length : Int)) rfl (mv_int n7.wd (ev_lenD (Evl.ev_var rfl) ((n36.trans n7).dq j3) (.inr rfl)) rfl) (by omega) (by omega) fun i i0 i1 => ⟨by show 5 ≤ 100000; decide, isRu_mk hc1 hc2 hmz (by rw [List.length_take]; omega) (List.all_eq_true.mpr fun x hx => List.all_eq_true.mp hl2 x (List.mem_of_mem_take hx)) (by omega)⟩)
          · subst er
            exact rest G v _ _ _ _ _ _ _ _ es _ (N6.trans (M10.trans nG)) (M10.trans nG) bG hle hae fun G' v3 ss' a b c e => done G' v3 ss' _ _ _ _ _ _ _ _ _ a b c e
    · have n6 := N5.wd.ex e6
      exact tail H6 v3 v4 _ _ _ _ _ _ _ _ _ _ _ _ ss us (N5.trans n6) (n6.dq d3) (n6.dq d4) hio
end
end Al
namespace Al
open PySem PySem.Spec PyProof.Rows L2
open Evl (Ex Ev EvT EvA EvL EvU EvO SpV RV RC RCL)
variable {D : Ban} {d l : Addr} {H : Hp}
def isWs : PyData → Bool
  | .list ws => decide (1 ≤ ws.length) && decide (ws.length ≤ 10) && ws.all isSh
  | _ => false
theorem isWs_iff {r : PyData} (h : Is isWs r) : ∃ ws, r = .list ws ∧ ws ≠ [] ∧ ws.length ≤ 10 ∧ ws.all isSh = true := by
  unfold Is isWs at h
  split at h
  · next ws =>
    simp only [Bool.and_eq_true, decide_eq_true_eq] at h
    exact ⟨ws, rfl, fun e => by rw [e] at h; simp at h, h.1.2, h.2⟩
  · cases h
def isMs : PyData → Bool
  | .list ws => decide (ws.length ≤ 10) && ws.all isSh
  | _ => false
theorem isMs_iff {r : PyData} (h : Is isMs r) : ∃ ws, r = .list ws ∧ ws.length ≤ 10 ∧ ws.all isSh = true := by
  unfold Is isMs at h
  split at h
  · next ws =>
    simp only [Bool.and_eq_true, decide_eq_true_eq] at h
    exact ⟨ws, rfl, h.1, h.2⟩
  · cases h
def PreNil (rs : List PyData) : Prop := rs = []
section
variable {P : Program} {w : World} {K : PySem.W.Frag} {mg : Str → Option Value} {base : Heap}
theorem sc_dp : FnScope ["_law_deck_here", "_law_way", "_law_words", "_law_marks_here", "_law_found", "_law_turn"] ["_law_deck_here"] (defScope (top 56)) := ⟨rfl, rfl, rfl, by decide +kernel, rfl, by decide +kernel, by decide +kernel⟩
set_option maxHeartbeats 4000000 in
theorem ok_dp (F : Def K mg "_law_drawn_protocol" (top 56) ["_law_deck_here"]) (B : Bl mg) (c_draw : Cal P w K mg base 1 "_law_draw" spDraw) (c_pick : Cal P w K mg base 2 "_law_pick" (spM PrePick PostPick)) (c_do : Cal P w K mg base 4 "_law_drawn_role" (spM PreDo PostRo)) (c_known : Cal P w K mg base 2 "_law_known" (spN PreKn PostPro)) (c_chg : Cal P w K mg base 3 "_law_changed" (spM PrePr PostPro)) : Cal P w K mg base 5 "_law_drawn_protocol" (spM PreNil PostPro) := by
  refine Cal.of F sc_dp (lenM fun rs er => by rw [er]; rfl) (fun f cdv A outer s H vs Q E hr h => ?_)
  refine ⟨_, (pss_cons (ps_set (i := 1) sc_dp.nd rfl (.inl rfl) (pcall c_draw hr (pa_cons (pv 0) (pa_cons pe_int pa_nil))))
      (pss_cons (ps_if (pt_cmpR op_gt (pv 1) pe_int (nomark _)) (pss_cons (ps_par (i := 2) (j := 3) rfl sc_dp.nd rfl rfl (by decide) rfl rfl (pa_cons (pcall c_pick hr (pa_cons (pv 0) (pa_cons (pe_lst (pa_cons (pe_lst (pa_cons pe_str pa_nil)) (pa_cons (pe_lst (pa_cons pe_str (pa_cons pe_str pa_nil))) (pa_cons (pe_lst (pa_cons pe_str (pa_cons pe_str pa_nil))) pa_nil)))) pa_nil))) (pa_cons (pcall c_pick hr (pa_cons (pv 0) (pa_cons (pe_lst (pa_cons (pe_lst (pa_cons pe_str pa_nil)) (pa_cons (pe_lst (pa_cons pe_str (pa_cons pe_str pa_nil))) (pa_cons (pe_lst pa_nil) pa_nil)))) pa_nil))) pa_nil)) (by rfl))
      (pss_one (ps_ret (pe_tup (pa_cons (pcall c_do hr (pa_cons (pv 0) (pa_cons pe_bl (pa_cons (pv 2) (pa_cons (pv 3) pa_nil))))) (pa_cons (pcall c_do hr (pa_cons (pv 0) (pa_cons pe_bl (pa_cons (pv 2) (pa_cons (pv 3) pa_nil))))) pa_nil)))))) pss_nil)
      (pss_cons (ps_set (i := 4) sc_dp.nd rfl (.inl rfl) (pcall c_known hr (pa_cons (pcall c_pick hr (pa_cons (pv 0) (pa_cons (pe_lst (pa_cons pe_str (pa_cons pe_str (pa_cons pe_str (pa_cons pe_str pa_nil))))) pa_nil))) pa_nil)))
      (pss_cons (ps_for PassesOwn.never rfl (pi_range1 rfl B.range (pa_cons (pv 1) pa_nil)) (pg_name (i := 5) sc_dp.nd rfl (.inl rfl)) (pss_one (ps_set (i := 4) sc_dp.nd rfl (.inl rfl) (pcall c_chg hr (pa_cons (pv 0) (pa_cons (pv 4) pa_nil))))))
      (pss_one (ps_ret (pv 4))))))), ?_⟩
  obtain ⟨D, d, l, vs', rs, rfl, hw, hq, hrs, q⟩ := h
  unfold PreNil at hrs
  subst hrs
  unfold DqL at hq
  subst hq
  have fin : ∀ r v H', Is isPro r → Dq D H' r v → Nx D d l H H' → Q v H' := fun r v H' a b c => q r v H' a b c
  refine q_mv (mv_drawC hw rfl) fun r v H1 ⟨way, er, i0, i1⟩ b N => ?_
  subst er
  unfold Dq at b
  subst b
  refine Evl.q_when (b := decide (2 < way)) (Evl.et_test (Evl.ev_op (Evl.ev_var rfl) Evl.ev_c Evl.rv_I0)) (fun _ H2 e2 => ?_) (fun hb H2 e2 => ?_)
  · have N2 := N.ex e2
    have w1 : ∀ {H' : Hp} {σ : L2.St} {z : Str}, Wd D d l H' → sh z = true → Mv D d l (tLst (tCons (tC (.str z)) tNil)) σ H' (fun r => Is isWs r ∧ Is isMs r) := fun {H'} {σ} {z} w hz => mv_lst (mva_flt (vs := [.str z]) w (Evl.ea_cons Evl.ev_c Evl.ea_nil) rfl ⟨by show 1 ≤ 100000; decide, by show (decide (1 ≤ 1) && decide (1 ≤ 10) && (sh z && true)) = true; rw [hz]; rfl, by show (decide (1 ≤ 10) && (sh z && true)) = true; rw [hz]; rfl⟩)
    have w2 : ∀ {H' : Hp} {σ : L2.St} {z y : Str}, Wd D d l H' → sh z = true → sh y = true → Mv D d l (tLst (tCons (tC (.str z)) (tCons (tC (.str y)) tNil))) σ H' (fun r => Is isWs r ∧ Is isMs r) := fun {H'} {σ} {z y} w hz hy => mv_lst (mva_flt (vs := [.str z, .str y]) w (Evl.ea_cons Evl.ev_c (Evl.ea_cons Evl.ev_c Evl.ea_nil)) rfl ⟨by show 2 ≤ 100000; decide, by show (decide (1 ≤ 2) && decide (2 ≤ 10) && (sh z && (sh y && true))) = true; rw [hz, hy]; rfl, by show (decide (2 ≤ 10) && (sh z && (sh y && true))) = true; rw [hz, hy]; rfl⟩)
    refine q_two (Ra := Is isWs) (Rb := Is isMs) (mv_pickA (n := 3) rfl (mva_allC ((w1 N2.wd (by decide +kernel)).imp fun _ h => h.1) fun _ m1 => mva_allC ((w2 m1.wd (by decide +kernel) (by decide +kernel)).imp fun _ h => h.1) fun _ m2 => mva_allC ((w2 m2.wd (by decide +kernel) (by decide +kernel)).imp fun _ h => h.1) fun _ m3 => mva_allN m3.wd) (by decide) (by decide)) (fun H3 n3 => mv_pickA (n := 3) rfl (mva_allC ((w1 n3.wd (by decide +kernel)).imp fun _ h => h.2) fun _ m1 => mva_allC ((w2 m1.wd (by decide +kernel) (by decide +kernel)).imp fun _ h => h.2) fun _ m2 => mva_allC (mv_lst (mva_nil m2.wd ⟨Nat.zero_le _, rfl⟩)) fun _ m3 => mva_allN m3.wd) (by decide) (by decide)) fun r2 r3 v2 v3 H3 h2 h3 b2 b3 n3 => ?_
    obtain ⟨ws, rfl, hw1, hw2, hw3⟩ := isWs_iff h2
    obtain ⟨ms, rfl, hm2, hm3⟩ := isMs_iff h3
    have N3 := N2.trans n3
    show tRet _ _ [some (.ref d), some (.int way), some v2, some v3, none, none] H3
    have role : ∀ {H' : Hp} (b : Bool), Nx D d l H3 H' → Mv D d l (tCall (spM PreDo PostRo) [] E0 (tCons (tVar 0) (tCons (tC (.bl b)) (tCons (tVar 2) (tCons (tVar 3) tNil))))) [some (.ref d), some (.int way), some v2, some v3, none, none] H' (Is isRo) := fun {H'} b nx => mv_callM (Rs := fun rs => rs = [.bool b, .list ws, .list ms]) rfl (mva_ev (vs := [.bl b, v2, v3]) (rs := [.bool b, .list ws, .list ms]) nx.wd (Evl.ea_cons Evl.ev_c (Evl.ea_cons (Evl.ev_var rfl) (Evl.ea_cons (Evl.ev_var rfl) Evl.ea_nil))) (DqL.cons (by unfold Dq; rfl) (DqL.cons (nx.dq b2) (DqL.cons (nx.dq b3) DqL.nil))) rfl) fun rs e => ⟨⟨b, ws, ms, e, hw1, hw2, hw3, hm2, hm3⟩, fun r h => h⟩
    exact s_retM (mv_proP (role true n3.wd.nx0) fun H4 n4 => role false n4) fun r v H' a b c => fin r v H' a b (N3.trans c)
  · have N2 := N.ex e2
    have hway : way ≤ 2 := by have := of_decide_eq_false hb; omega
    refine q_mv (R := Is isPro) (mv_callN (Rs := fun rs => ∃ z : Str, rs = [.str z]) (mva_one ((mv_pickF N2.wd rfl (Evl.ea_cons Evl.ev_c (Evl.ea_cons Evl.ev_c (Evl.ea_cons Evl.ev_c (Evl.ea_cons Evl.ev_c Evl.ea_nil)))) (by decide +kernel)).imp fun r ⟨v, hv, e⟩ => ?_)) fun rs h => ⟨h, fun r a => a⟩) fun r v H3 hr br n3 => ?_
    · simp only [List.mem_cons, List.not_mem_nil, or_false] at hv
      rcases hv with rfl | rfl | rfl | rfl
      · exact ⟨"oneround", by rw [e]; rfl⟩
      · exact ⟨"tworounds", by rw [e]; rfl⟩
      · exact ⟨"lazy", by rw [e]; rfl⟩
      · exact ⟨"oneround", by rw [e]; rfl⟩
    have N3 := N2.trans n3
    refine Evl.q_forR1 (n := way) (Evl.ea_cons (Evl.ev_var rfl) Evl.ea_nil) ⟨by omega, by omega⟩
      (fun i σ' H' => Nx D d l H H' ∧ ∃ r v x5, Is isPro r ∧ Dq D H' r v ∧ σ' = [some (.ref d), some (.int way), none, none, some v, x5])
      (fun H' e => ⟨N3.ex e, r, v, none, hr, (N3.wd.ex e).dq br, rfl⟩) (fun i σ' H' hi P => ?_) fun σ' H' P => ?_
    · obtain ⟨NP, r', v', x5, hr', br', rfl⟩ := P
      refine s_mv (R := Is isPro) (mv_callM (Rs := fun rs => ∃ r, rs = [r] ∧ Is isPro r) rfl (mva_one (mv_var NP.wd rfl br' ⟨r', rfl, hr'⟩)) fun rs h => ⟨h, fun r a => a⟩) fun r2 v2 H4 hr2 br2 n4 => ⟨NP.trans n4, r2, v2, _, hr2, br2, rfl⟩
    · obtain ⟨NP, r', v', x5, hr', br', rfl⟩ := P
      exact s_retM (R := Is isPro) (mv_var NP.wd rfl br' hr') fun r v H4 a b c => fin r v H4 a b (NP.trans c)
/-! ### the deck -/
def spDeck (K : PySem.W.Frag) : Sp := fun vs H Q _ => ∃ (a : Addr) (ns : List Int) (seed : Int), vs = [.ref a, .int seed] ∧ SqL K H a (ns.map V.int) ∧ ∀ d l H', Ex H H' → H d = none → H l = none → Dk d l H' → Q (.ref d) H'
theorem cutV_to (xs : List V) (k : Nat) : cutV xs none (some (k : Int)) = xs.take k := by
  unfold cutV
  rw [HT.sIx_none, HT.sIx_nat, List.drop_zero, Nat.sub_zero]
  rcases Nat.le_total k xs.length with h | h
  · rw [Nat.min_eq_left h]
  · rw [Nat.min_eq_right h, List.take_of_length_le (Nat.le_refl _), List.take_of_length_le h]
theorem sc_deck : FnScope ["_law_script", "_law_seed", "_law_mixed", "_law_cell"] ["_law_script", "_law_seed"] (defScope (top 36)) := ⟨rfl, rfl, rfl, by decide +kernel, rfl, by decide +kernel, by decide +kernel⟩
theorem ok_deck (F : Def K mg "_law_deck" (top 36) ["_law_script", "_law_seed"]) (B : Bl mg) : Cal P w K mg base 1 "_law_deck" (spDeck K) := by
  refine Cal.of F sc_deck (fun vs H Q E ⟨a, ns, seed, e, _⟩ => by rw [e]; rfl) (fun f cdv A outer s H vs Q E hr h => ?_)
  refine ⟨_, (pss_cons (ps_set (i := 2) sc_deck.nd rfl (.inl rfl) (pv 1))
      (pss_cons (ps_for PassesOwn.never rfl (pi_list (pe_slice sl_list (pv 0) po_none (po_some pe_int))) (pg_name (i := 3) sc_deck.nd rfl (.inl rfl)) (pss_one (ps_set (i := 2) sc_deck.nd rfl (.inl rfl) (pe_op op_mod (pe_callTy call_int1 (by rfl) B.int b_int (pa_cons (pe_op op_add (pe_op op_add (pe_op op_mul (pv 2) pe_int) (pe_op op_mod (pe_callTy call_int1 (by rfl) B.int b_int (pa_cons (pv 3) pa_nil)) pe_int)) pe_int) pa_nil)) pe_int))))
      (pss_one (ps_ret (pe_disp (pps_cons pe_str (pe_revL (pe_callTy call_list_of (by rfl) B.list b_list (pa_cons (pe_slice sl_list (pv 0) po_none (po_some pe_int)) pa_nil))) (pps_cons pe_str (pv 2) (pps_cons pe_str pe_int pps_nil))) rfl rfl (by simp) (by decide)))))), ?_⟩
  obtain ⟨a, ns, seed, rfl, ha, q⟩ := h
  refine Evl.q_asg (Evl.ev_var rfl) fun H1 e1 => ?_
  have e63 : cutV (ns.map V.int) none (some ((63 : Nat) : Int)) = (ns.take 63).map V.int := by rw [cutV_to, List.map_take]
  have sl : ∀ (σ : L2.St) (H' : Hp), Ex H H' → σ[0]? = some (some (.ref a)) → EvL (tSl (rSlL K) (tVar 0) tNoPart (tPart (tC (.int 63)))) σ H' ((ns.take 63).map V.int) := fun σ H' e hσ => by
    rw [← e63]
    exact Evl.el_sl (Evl.ev_var hσ) Evl.eo_none (Evl.eo_some Evl.ev_c) (Evl.ex_l e ha)
  refine Evl.q_forNLn (K := K) (sl _ H1 e1 rfl) (fun p i σ' H' => Ex H H' ∧ H' p = some (.lst ((ns.take 63).map V.int)) ∧ ∃ (m : Int) (x3 : Option V), σ' = [some (.ref a), some (.int seed), some (.int m), x3])
    (fun p H2 _ e2 hp => ⟨e1.trans e2, hp, seed, none, rfl⟩) (fun p i σ' H' _ P => Evl.sq_of P.2.1) (fun p i x σ' H' hi P => ?_) fun p σ' H' P => ?_
  · obtain ⟨eP, hp, m, x3, rfl⟩ := P
    rw [List.getElem?_map] at hi
    cases hn : (ns.take 63)[i]? with
    | none => rw [hn] at hi; cases hi
    | some c =>
      rw [hn] at hi
      have hi : V.int c = x := Option.some.inj hi
      subst hi
      exact Evl.s_asg (ev_mod (ev_int1 (ev_add (ev_add (ev_mul (Evl.ev_var rfl) Evl.ev_c (lit_r (by decide))) (ev_mod (ev_int1 (Evl.ev_var rfl)) Evl.ev_c (by decide))) Evl.ev_c)) Evl.ev_c (by decide)) fun H2 e2 => ⟨eP.trans e2, e2 _ _ hp, _, _, rfl⟩
  · obtain ⟨eP, _, m, x3, rfl⟩ := P
    intro dd hdd
    have e0 : Ex H (upd H' dd (.dK [])) := eP.trans (Ex.new hdd)
    refine sl _ _ e0 rfl _ (Ex.refl _) _ fun p1 H2 hp1 e2 h1 => ⟨p1, _, rfl, .inl (Evl.sq_of h1), fun p2 hp2 => ⟨p2, _, rfl, Evl.sq_of upd_same, fun p3 hp3 => ?_⟩⟩
    have eA : Ex (upd H' dd (.dK [])) (upd (upd H2 p2 (.lst ((ns.take 63).map V.int))) p3 (.lst ((ns.take 63).map V.int).reverse)) := e2.trans ((Ex.new hp2).trans (Ex.new hp3))
    refine ⟨.int m, rfl, eA _ _ upd_same, [(.inr "left", .ref p3), (.inr "mixed", .int m), (.inr "draws", .int 0)], rfl, by show 3 ≤ 15; decide, ?_⟩
    have n3 : dd ≠ p3 := fun z => by
      have h2 : upd H2 p2 (.lst ((ns.take 63).map V.int)) p3 = none := hp3
      rw [← z] at h2
      rw [(e2.trans (Ex.new hp2)) _ _ upd_same] at h2
      cases h2
    have eB : Ex H (upd (upd (upd H2 p2 (.lst ((ns.take 63).map V.int))) p3 (.lst ((ns.take 63).map V.int).reverse)) dd (.dK (mergeK [] [(.inr "left", .ref p3), (.inr "mixed", .int m), (.inr "draws", .int 0)]))) := Ex.mut (e0.trans eA) (Evl.fresh_back eP hdd)
    refine q dd p3 _ eB (Evl.fresh_back eP hdd) (Evl.fresh_back (e0.trans (e2.trans (Ex.new hp2))) hp3) ⟨m, 0, (ns.take 63).reverse, n3, upd_same, ?_, ?_⟩
    · rw [upd_ne (Ne.symm n3), upd_same, List.map_reverse]
    · rw [List.length_reverse, List.length_take]
      omega
end
end Al
namespace Al
open PySem PySem.Spec PyProof.Rows L2
/-! ### a def's one call, its surroundings told: what is known of them (G) may be used by the readings of the body -/
section
variable {CX : CXT} {P : Program} {w : World} {K : PySem.W.Frag} {mg : Str → Option Value} {base : Heap} {k : Nat} {f : Addr} {qual : Str} {st : Stmt} {N ps : List Str} {A : Around} {s : Shared} {H : Hp} {Q : VK} {E : XK} {fd : FuncData} {us : List Value} {vs : List V} {args : Args}
theorem call_told (F : Fun K qual qual st f fd) (S : FnScope N ps (defScope st)) (len : vs.length = ps.length) (hr : Room (k + 1) A) (e0 : Env0 P w K mg base A [] s H) (hb : BindsTo s fd args (ps.zip us)) (rv : Vals vs us)
    (body : ∀ cdv : Value, ∃ t, PSs (cxOf CX0 P w K mg base N qual (defScope st) f cdv A [] s H E).nox (defBody st) t ∧ t { nx := fun _ H' => Q .non H', rt := Q } (start N vs) H) : codeAny (model P w) A (.call (.ref f) args) (CR CX0 [] P w H s Q E) s := by
  obtain ⟨_, _, kV, doc, pm, an, cdv, ct, _, efd, lk, hcd⟩ := F.ex
  subst efd
  obtain ⟨t, ht, hq⟩ := body cdv
  have stays : ∀ b o, base.get? b = some o → s.heap.get? b = some o := fun b o e => (e0.bs b o e).1
  have inK := e0.mod.kin.keeps stays
  have bound : ∀ z ∈ ps.zip us, (defScope st).names.lookup z.1 = some .local ∨ ((defScope st).names.lookup z.1 = some .cell ∧ ((cellsFrom (s.heap.objs.size + 1) (defScope st).names []).lookup z.1).isSome = true) := by
    intro z hz
    obtain ⟨n, v⟩ := z
    cases S.par n (List.of_mem_zip hz).1 with
    | inl q => exact Or.inl q
    | inr q => exact Or.inr ⟨q, PySem.W.cellsFrom_some _ _ _ (Or.inl q)⟩
  apply codeAny_call_function hr.depth (inK _ _ lk) rfl S.co S.gen rfl (PySem.W.codeRec_of inK hcd)
  apply hb
  apply wpAny_newFunctionEnv_cells S.kind bound
  intro env he s1 x
  subst he
  constructor
  · exact (e0.mod.nolimit.keeps stays).keeps x.toInCall.keep
  apply codeAny_func
  have I : Inv (cxOf CX0 P w K mg base N qual (defScope st) f cdv A [] s H E) [] (start N vs) H s1 := inv_start S hr.hd e0 len rv x
  have run := (ht.nox).run [] s1 (start N vs) H _ I hq
  refine wpAny_mono run ?_ fun _ _ z => z
  intro fl s' hs
  have leave : ∀ (σ' : L2.St) (H' : Hp) (v : V) (u : Value), Inv (cxOf CX0 P w K mg base N qual (defScope st) f cdv A [] s H E) [] σ' H' s' → RelV v u → Q v H' → CE [] P w H s Q u s' := by
    intro σ' H' v u J r q
    exact ⟨v, H', J.os, J.bare, J.base, J.hok, r, q⟩
  match fl, hs with
  | .ret u, ⟨v, σ', H', J, r, q⟩ => exact leave σ' H' v u J r q
  | .next, ⟨σ', H', J, q⟩ => exact leave σ' H' .non .none J rfl q
  | .brk, ⟨_, _, _, q⟩ => exact q.elim
  | .cont, ⟨_, _, _, q⟩ => exact q.elim
end
/-! ### the head: the def of the law at its one caller -/
def scr (a : Addr) (o : Obj) (xs : List V) : Hp := fun b => if b = a then some (.frz o (.lst xs)) else none
theorem scr_at {a : Addr} {o : Obj} {xs : List V} : scr a o xs a = some (.frz o (.lst xs)) := if_pos rfl
theorem scr_off {a b : Addr} {o : Obj} {xs : List V} (h : b ≠ a) : scr a o xs b = none := if_neg h
section
variable {P : Program} {w : World} {K : PySem.W.Frag} {mg mb : Str → Option Value} {k : Nat} {fa a : Addr} {s : Shared} {H : Hp} {vs : List Value} {ns : List Int}
/-- the base behind what is tracked -/
theorem env0_of (KX : K.In s.heap) (hns : s.heap.Ns mainGlobals mg) (hb : s.heap.Ns builtinsNs mb) (hbb : ∀ x : Str, x ≠ "__name__" → mb x = bootBuiltins x) (hlim : s.heap.NoLimit) (hg : s.gens = #[])
    (ha : s.heap.get? a = some { cls := .type "list", data := .seq vs.toArray }) (hok : HOk P w H s.heap) (hA : ∀ b, H b ≠ none → b = a) (hK : H a ≠ none → K.lookup a = none) : K.In (hidT s.heap H) ∧ (hidT s.heap H).Ns mainGlobals mg ∧ Env0 P w K mg (hidT s.heap H) callerA [] s H := by
  have off : ∀ b, b ≠ a → H b = none := by
    intro b hb'
    cases e : H b with
    | none => rfl
    | some u => exact absurd (hA b (by rw [e]; simp)) hb'
  have dict : ∀ (b : Addr) (o : Obj) (es : Array DictEntry) (n : Nat), s.heap.get? b = some o → o.data = .dict es n → H b = none := by
    intro b o es n e hd
    apply off
    intro e2
    subst e2
    have eo := Option.some.inj (ha.symm.trans e)
    subst eo
    exact absurd hd (fun z => by cases z)
  have ns' : ∀ (b : Addr) (m : Str → Option Value), s.heap.Ns b m → (hidT s.heap H).Ns b m := by
    intro b m h
    obtain ⟨o, es, n, e, hd, r⟩ := h
    exact ⟨o, es, n, hidT_get e (dict b o es n e hd), hd, r⟩
  have kin : K.In (hidT s.heap H) := by
    intro b o e
    apply hidT_get (KX b o e)
    by_cases hb' : b = a
    · subst hb'
      cases e2 : H b with
      | none => rfl
      | some u =>
        have z := hK (by rw [e2]; simp)
        rw [e] at z
        cases z
    · exact off b hb'
  have lim : (hidT s.heap H).NoLimit := by
    obtain ⟨mc, h1, h2⟩ := hlim
    exact ⟨mc, ns' _ mc h1, h2⟩
  refine ⟨kin, ns' _ _ hns, ?_⟩
  constructor
  · rfl
  · exact ⟨kin, ns' _ _ hns, ⟨mb, ns' _ _ hb, hbb⟩, lim⟩
  · exact fun b o e => of_hidT e
  · exact Nat.le_of_eq (hidT_size _ _)
  · exact trivial
  · intro b hb'
    cases hb'
  · exact hok
  · exact .of_eq hg
theorem law_told (KX : K.In s.heap) (hns : s.heap.Ns mainGlobals mg) (hb : s.heap.Ns builtinsNs mb) (hbb : ∀ x : Str, x ≠ "__name__" → mb x = bootBuiltins x) (hlim : s.heap.NoLimit) (hg : s.gens = #[])
    (ha : s.heap.get? a = some { cls := .type "list", data := .seq vs.toArray }) (hi : IntsAre vs ns) (hl : ns.length ≤ sizeLine)
    (F : ∀ (base : Heap) (H : Hp), K.In base → base.Ns mainGlobals mg → Env0 P w K mg base callerA [] s H → Only H → SqL K H a (ns.map V.int) → codeAny (model P w) callerA (.call (.ref fa) ⟨[.ref a], []⟩) (CR CX0 [] P w H s (fun v _ => v = .bl true) fun _ _ _ => False) s) :
    codeAny (model P w) callerA (.call (.ref fa) ⟨[.ref a], []⟩) (fun r s' => r = .ok (.ret (.bool true)) ∧ OldK s.heap s'.heap ∧ s'.os = s.os ∧ AllBare s'.gens) s := by
  have rv := vals_ints hi
  have go : ∀ H : Hp, Only H → SqL K H a (ns.map V.int) → HOk P w H s.heap → (∀ b, H b ≠ none → b = a) → (H a ≠ none → K.lookup a = none) → codeAny (model P w) callerA (.call (.ref fa) ⟨[.ref a], []⟩) (fun r s' => r = .ok (.ret (.bool true)) ∧ OldK s.heap s'.heap ∧ s'.os = s.os ∧ AllBare s'.gens) s := by
    intro H hO hS hok hA hK
    obtain ⟨e1, e2, e0⟩ := env0_of (mg := mg) KX hns hb hbb hlim hg ha hok hA hK
    refine codeAny_mono (F _ H e1 e2 e0 hO hS) ?_
    intro r s' h
    match r, h with
    | .ok (.ret u), ⟨v, H', os, bare, un, hok', r', q⟩ =>
      have q' : v = .bl true := q
      subst q'
      have eu : u = Value.bool true := r'
      subst eu
      refine ⟨rfl, OldK.of_keep ?_, os, bare⟩
      intro b o e
      rcases hO b with hn | ⟨ob, xs, hf⟩
      · exact un.keep b o e hn (by intro z; cases z) (by intro z; cases z)
      · have z1 := (hok b _ hf).1
        have z2 := (hok' b _ (un.frzs b ob _ hf)).1
        rw [← e, z1]
        exact z2
  cases hk : K.lookup a with
  | none =>
    refine go (scr a { cls := .type "list", data := .seq vs.toArray } (ns.map V.int)) ?_ ?_ ?_ ?_ (fun _ => hk)
    · intro b
      by_cases e : b = a
      · subst e; exact .inr ⟨_, _, scr_at⟩
      · exact .inl (scr_off e)
    · exact .inl (.inr ⟨_, scr_at⟩)
    · intro b u hu
      by_cases e : b = a
      · subst e
        rw [scr_at] at hu
        have hu := (Option.some.inj hu).symm
        subst hu
        exact ⟨ha, by rw [List.length_map]; exact hl, vs, _, rv, ha⟩
      · rw [scr_off e] at hu
        cases hu
    · intro b hn
      by_cases e : b = a
      · exact e
      · exact absurd (scr_off e) hn
  | some o =>
    have e := KX a o hk
    rw [ha] at e
    have e := (Option.some.inj e).symm
    subst e
    refine go (fun _ => none) (fun _ => .inl rfl) (.inr ⟨_, vs.toArray, _, hk, rfl, rfl, rfl, ?_, ?_⟩) ?_ ?_ ?_
    · rw [List.size_toArray, hi.length]
      exact hl
    · simpa using rv
    · intro b u z
      cases z
    · intro b z
      exact absurd rfl z
    · intro z
      exact absurd rfl z
end
end Al
set_option maxHeartbeats 4000000
namespace PySem
namespace AlX
open PySem.W PySem.Calls PyProof.Rows
section
open Builtin Builtin.ObjectAttr
variable {prog : Program} {w : World} {A : Around} {R : Result → Shared → Prop} {hp : Heap} {g : Array GenState} {d : Drawn} {t : Nat} {os : OsState}
/-- the classes of an error two below Exception -/
abbrev mro2 (C S : Addr) : List Value := .ref C :: .ref S :: ESX.exTail
theorem mro2_object {C S : Addr} : (mro2 C S).contains (.type "object") = true := by
  show (Value.ref C :: Value.ref S :: ESX.exTail).contains (.type "object") = true
  rw [List.contains_cons, List.contains_cons]
  have : ESX.exTail.contains (.type "object") = true := by decide +kernel
  rw [this, Bool.or_true, Bool.or_true]
/-- the first field of such an error -/
theorem put_first {K : W.Frag} {name : Str} {tk : Tok} {v : Value} {x C S : Addr} {fv : Array Value} {cd : ClassData}
    (X : K.In hp) (hx : hp.get? x = some { cls := .ref C, data := .fields fv }) (hcd : W.clsIn K C = some cd) (hm : cd.mro = mro2 C S) (hh : cd.hasDict = true) (ha : W.findIn K (.ref C) name = some none)
    (hq : ∀ h' tk' dx, (∀ b o, b ≠ x → hp.get? b = some o → h'.get? b = some o) → hp.objs.size ≤ dx → dx ≠ x → h'.get? x = some { cls := .ref C, dict := some dx, data := .fields fv } →
      h'.Ns1 dx (fun y => if y = name then some v else none) → R (.ok (.ret .none)) ⟨h', g, d, tk', os⟩) :
    codeAny (model prog w) A (.call (.builtin "object.__setattr__") ⟨[.ref x, .str name tk, v], []⟩) R ⟨hp, g, d, t, os⟩ := by
  have inst : W.InstAt hp x { cls := .ref C, data := .fields fv } C none := ⟨hx, rfl, rfl, trivial⟩
  have apart : x ≠ hp.objs.size := Nat.ne_of_lt (Heap.lt_size hx)
  have SF := F.store_object
  have isObj : W.mroIn K C (.type "object") = some true := by
    unfold W.mroIn
    rw [hcd, Option.bind_some, hm, if_neg (show ¬ (List.isEmpty (mro2 C S) = true) from Bool.false_ne_true), mro2_object]
  have sub : W.Looks (model prog w) hp (isInstance (.ref x) (.type "object")) true := inst.type.andThen (W.looks_mroIn X isObj)
  have hcls : W.Looks (model prog w) hp (classData C) cd := W.looks_clsIn X hcd
  have hmr : W.Looks (model prog w) hp (mroOf (.ref C)) cd.mro := hcls.andThen .now
  have noTaker : W.Looks (model prog w) hp (storeTaker? none) none := .now
  have free : refuseLoop (.ref x) "__setattr__" cd.mro = pure () := by
    rw [hm]
    show refuseLoop (.ref x) "__setattr__" (Value.ref C :: Value.ref S :: ESX.exTail) = pure ()
    rw [refuseLoop_ref, refuseLoop_ref]
    exact F.store_Exception.passes _
  refine codeAny_call_builtin SF.slot.plain SF.entry (@W.check_slot (model prog w) _ _ ⟨hp, g, d, t, os⟩ "object.__setattr__" "object" "__setattr__" (.ref x) [.str name tk, v] [] _ SF.kind SF.split sub (SF.args (.ref x) (.str name tk) v) ?_)
  rw [W.osa_eq, refuse_eq]
  refine wpAny_bind (wpAny_bind (inst.type.at (wpAny_bind (hmr.at ?_))))
  rw [free]
  refine wpAny_pure (wpAny_bind (inst.type.at (wpAny_bind ((W.looks_findIn X ha).at (wpAny_bind (noTaker.at ?_))))))
  show wpAny _ _ (storeInOwnDict (.ref x) (.ref C) (.str name tk) name v false) _ _ _
  obtain ⟨nm, bs, mro, ns, qn, hd, sn, sb, ab, col, del⟩ := cd
  dsimp only at hh
  subst hh
  unfold storeInOwnDict ownDictForStores
  repeat (first | with_reducible refine HandSPX.store_in_new ?_ ?_ | with_reducible refine wpAny_loadPart_at hx ?_ | with_reducible refine hcls.at ?_ | wp_step)
  · exact ⟨_, #[], _, (Heap.get?_update_ne _ _ _ _ apart.symm).trans (Heap.get?_push_at rfl rfl), rfl, fun e he => absurd he (by simp), fun _ => rfl⟩
  · intro h' tk' hn' hs
    have there : (hp.push { cls := .type "dict", data := .dict #[] }).get? x = some { cls := .ref C, data := .fields fv } := Heap.get?_push_of_some _ hx
    apply hq h' tk' hp.objs.size _ (Nat.le_refl _) apart.symm _ hn'
    · intro b o hb ho
      exact (hs.2 b (Nat.ne_of_lt (Heap.lt_size ho))).trans ((Heap.get?_update_ne _ _ _ _ hb).trans (Heap.get?_push_of_some _ ho))
    · exact (hs.2 x apart).trans (Heap.get?_update_self _ there rfl)
end
end AlX
end PySem
namespace Al
open PySem PySem.Spec PyProof.Rows L2
/-- what the written part says of the class of an error two below Exception -/
structure BadC (K : PySem.W.Frag) (C S : Addr) : Prop where
  cls : ∃ nm q N bs sn sub ab col dd k0 k1 k2 k3 k5, K.lookup C = some (excClassObj nm q C N bs (.ref S :: PySem.ESX.exTail) true sn sub ab col dd k0 k1 k2 k3 k5 "Exception.__new__")
  sa : PySem.W.findIn K (.ref C) "__setattr__" = some (some (.builtin "object.__setattr__"))
  exC : PySem.W.subIn K (.ref C) (.type "BaseException") = some true
  tyC : PySem.W.typeIn K (.ref C) = some (.type "type")
  kC : PySem.W.keepIn K (.ref C) = true
section
variable {X : Cx} {pins : List (Addr × Obj)} {σ : L2.St} {H : Hp} {s : Shared} {a C S dx : Addr} {f : Str} {y : V} {u : Value} {Q : Unit → Shared → Prop} {E : Value → Shared → Prop} {A : Around}
/-- self.f = y of a new one -/
theorem set_first (T : BadC X.K C S) (I : Inv X pins σ H s) (e : H a = some (exo a C none)) (hno : PySem.W.findIn X.K (.ref C) f = some none) (ry : RelV y u)
    (h : ∀ dx s', H dx = none → dx ≠ a → Inv X pins σ (upd (upd H dx (exd dx [(f, y)])) a (exo a C (some dx))) s' → Q () s') : wpAny (model X.prog X.w) A (setAttr (.ref a) f u) Q E s := by
  obtain ⟨nm, q, N, bs, sn, sub, ab, col, dd, k0, k1, k2, k3, k5, hC⟩ := T.cls
  have hcl : PySem.W.clsIn X.K C = some { name := nm, bases := bs, mro := PySem.AlX.mro2 C S, ns := N, qualname := q, hasDict := true, slotNames := sn, subclasses := sub, abstract := ab, collection := col, hasDel := false } := by
    unfold PySem.W.clsIn
    rw [hC] <;> rfl
  obtain ⟨t1, ho⟩ := exo_at I.hok e
  obtain ⟨hp, g, d, t, os⟩ := s
  refine PySem.W.set_plain I.kIn (ox := { cls := .ref C, dict := none, data := .fields #[.ref t1, .none, .none, .none, .bool false, .none] }) (od := none) ⟨ho, rfl, rfl, trivial⟩ T.sa ?_
  apply PySem.AlX.put_first I.kIn ho hcl rfl rfl hno
  intro h' tk' dx k dn dne hx hn
  have hnd : H dx = none := I.hok.fresh dn
  have old : ∀ {b : Addr} {o : Obj}, hp.get? b = some o → b ≠ dx := fun {b o} q => Nat.ne_of_lt (Nat.lt_of_lt_of_le (Heap.lt_size q) dn)
  have off : ∀ {b : Addr}, H b = none → b ≠ a := fun {b} n z => by
    rw [z, e] at n
    cases n
  apply h dx _ hnd dne
  have U : Un X.fs [] H (upd (upd H dx (exd dx [(f, y)])) a (exo a C (some dx))) hp h' := by
    constructor
    · intro b o q n _ _
      exact k b o (off n) q
    · intro b o q n _ _
      exact ⟨o.slots, k b o (off n) q⟩
    · intro b o q n _
      rw [upd_ne (off n), upd_ne (old q)]
      exact n
    · intro b o q _
      by_cases hb : b = a
      · subst hb
        exact ⟨_, hx⟩
      · exact ⟨o, k b o hb q⟩
    · intro b xs q
      rw [upd_ne (at_ne e q exo_tup), upd_ne (ne_of_none q hnd)]
      exact q
    · intro b o v q
      rw [upd_ne (at_ne e q exo_frz), upd_ne (ne_of_none q hnd)]
      exact q
    · intro b ps q
      refine ⟨#[], ?_⟩
      rw [upd_ne (at_ne e q exo_tbl), upd_ne (ne_of_none q hnd), q]
      simp
  refine I.un (t' := tk') U ?_
  intro b o q
  by_cases hb : b = a
  · subst hb
    rw [upd_same] at q
    cases q
    exact exo_ok hx
  rw [upd_ne hb] at q
  by_cases hd : b = dx
  · subst hd
    rw [upd_same] at q
    cases q
    exact exd_ok hn (relO_put (fs := []) ry fun g => True.intro)
  rw [upd_ne hd] at q
  refine (I.hok b o q).stay ?_ ?_ ?_
  · intro c v hc z
    refine k c v ?_ z
    rcases hc with hc | hc
    · rw [hc]; exact hb
    · exact at_ne e hc exo_own
  · intro c hc
    rw [upd_ne (at_ne e hc exo_own), upd_ne (ne_of_none hc hnd)]
    exact hc
  · intro c xs hc
    rw [upd_ne (at_ne e hc exo_tup), upd_ne (ne_of_none hc hnd)]
    exact hc
end
/-- self.f = e, self a new error of the class at C -/
def tFst (K : PySem.W.Frag) (f : Str) (to te : TE) : TS := fun D σ H => te σ H fun y H1 => to σ H1 fun x H2 => ∃ a C S : Addr, x = .ref a ∧ BadC K C S ∧ PySem.W.findIn K (.ref C) f = some none ∧ H2 a = some (exo a C none) ∧
  ∀ dx, H2 dx = none → dx ≠ a → D.nx σ (upd (upd H2 dx (exd dx [(f, y)])) a (exo a C (some dx)))
section
variable {X : Cx} {o e : Expr} {es : List Expr} {to te : TE} {ta : TA} {f : Str} {p p' p1 p2 pos : Pos}
theorem ps_fst (ho : PE X o to) (he : PE X e te) (hs : swapsWith e (some (.Attribute o f p')) pos.line X.env = pure false := by rfl) : PS X (.Assign [.Attribute o f p'] e pos) (tFst X.K f to te) := by
  constructor
  intro pins s σ H D I h
  refine plainObj_wpAny_Assign_Attribute (thn (he.run pins s σ H _ I h) fun v s1 ⟨y, H1, I1, r1, q1⟩ => thn (ho.run pins s1 σ H1 _ I1 q1) fun u s2 ⟨x, H2, I2, r2, hh⟩ => ?_) hs
  obtain ⟨a, C, S, ex, T, hno, ea, q⟩ := hh
  subst ex
  have eu : u = Value.ref a := r2
  subst eu
  exact set_first T I2 ea hno r1 fun dx s' n ne J => ⟨σ, _, J, q dx n ne⟩
theorem own_has {S : Addr} (Y : String) : (Value.ref S :: PySem.ESX.exTail).contains (.type Y) = [Value.type "Exception", .type "BaseException", .type "object"].contains (.type Y) := by
  rw [List.contains_cons]
  have : (Value.type Y == Value.ref S) = false := rfl
  rw [this, Bool.false_or]
/-- C(e, ..), C's own __init__ keeping sp -/
theorem pmk_bad {x : Str} {C S fI : Addr} {k : Nat} {fd : FuncData} {ps : List Str} {sp : Sp} (T : BadC X.K C S) (iC : PySem.W.findIn X.K (.ref C) "__init__" = some (some (.ref fI))) (tI : PySem.W.typeIn X.K (.ref fI) = some (.type "function"))
    (F1 : FnOk X.prog X.w X.K X.mg X.base CX0 k fI fd ps sp) (hr : Room (k + 1) X.A) (hb : Binds X.K fd ps []) (hg : Gl X x) (hm : X.mg x = some (.ref C)) (ha : PA X (e :: es) ta)
    (hdb : (x == ("__debug__" : Str)) = false := by decide) (he : starEach (e :: es) X.env = (false, eval e X.env) :: starEach es X.env := by rfl) (hpl : (backTo pos (starEach es X.env)).any (·.1) = false := by rfl) :
    PMk X (.Call (.Name x p) (e :: es) [] pos) (tMkO C sp [] ta) := by
  intro pins s σ H Q I h
  obtain ⟨nm, q, N, bs, sn, sub, ab, col, dd, k0, k1, k2, k3, k5, hC⟩ := T.cls
  apply wpAny_Call_Name_kw
  apply ld_glob I hg hm _ hdb
  refine PySem.W.callWith_K (h₀ := X.base) I.ok.mod.kin T.kC (thn (ha.run pos pins s σ H _ I h) fun us s1 ⟨vs, H1, I1, r1, hz, q1⟩ => ⟨I1.kIn, ?_⟩) he hpl
  show wpAny _ _ (call (.ref C) us) _ _ _
  obtain ⟨hp, g, dr, tk, os⟩ := s1
  have up1 : hp.objs.size ≤ hp.objs.size + 1 := Nat.le_succ _
  have hq := q1 (hp.objs.size + 1) (I1.hok.fresh up1)
  have grow : ∀ b o, hp.get? b = some o → ((hp.push (PySem.W.kdv_tup us)).push (PySem.HandSPX.excO C hp.objs.size)).get? b = some o := by
    intro b o e
    exact Heap.get?_push_of_some _ (Heap.get?_push_of_some _ e)
  have made : ((hp.push (PySem.W.kdv_tup us)).push (PySem.HandSPX.excO C hp.objs.size)).get? (hp.objs.size + 1) = some (PySem.HandSPX.excO C hp.objs.size) := by heap_get
  have I2 := I1.laid (t' := tk) (a := hp.objs.size + 1) (o := exo (hp.objs.size + 1) C none) (h' := (hp.push (PySem.W.kdv_tup us)).push (PySem.HandSPX.excO C hp.objs.size)) grow up1 (exo_ok made)
  have r2 : Vals (V.ref (hp.objs.size + 1) :: (vs ++ [])) (Value.ref (hp.objs.size + 1) :: us) := by
    rw [List.append_nil]
    exact .cons rfl r1
  have hl : (Value.ref (hp.objs.size + 1) :: us ++ []).length = ps.length := by
    have e2 := r2.length
    rw [F1.len _ _ _ _ hq] at e2
    rw [List.append_nil]
    exact e2.symm
  have hus : us.length ≤ sizeLine := by
    rw [← Paired.length r1, sizeLine_eq]
    omega
  refine wpAny_call (PySem.HandSPX.call_own F.excBase_Exception own_has (I1.kIn _ _ hC) (PySem.W.looks_findIn I1.kIn iC) (fun self => PySem.W.bind_fn I1.kIn self tI) hus (codeAny_mono (F1.run _ X.stack _ _ ⟨Value.ref (hp.objs.size + 1) :: us, []⟩ (Value.ref (hp.objs.size + 1) :: us) _ _ (fun _ _ _ => False) (hr.make C us []) (I2.env0.make C us []) (by
      have b := hb _ (Value.ref (hp.objs.size + 1) :: us) I2.kIn hl
      rw [List.append_nil] at b
      exact b) r2 hq) ?_))
  intro r s' hq'
  match r, hq' with
  | .error er, hq' => exact hq'.elim
  | .ok (.ret u), ⟨v, H2, os2, bare2, un2, hok2, rv, ev, d, fs, ea, ed, hd1, q2⟩ =>
    subst ev
    obtain ⟨h2, g2, d2, t2, os'⟩ := s'
    exact ⟨rv, mk_end (raises_own T.exC T.tyC) I1 up1 grow un2 hok2 os2 bare2 ea ed hd1 q2⟩
  | .ok .next, hq' => exact hq'.elim
  | .ok .brk, hq' => exact hq'.elim
  | .ok .cont, hq' => exact hq'.elim
end
end Al
set_option maxHeartbeats 4000000
namespace PySem.AlX
open PySem PySem.Spec PySem.Calls PyProof.Rows PySem.W
section
variable {prog : Program} {w : World} {A : Around} {E : Value → Shared → Prop} {s : Shared} {K : Frag} {x D : Addr} {ox : Obj} {od : Option Obj}
/-- the class of an own error, asked of it, whatever its dict -/
theorem class_of_error {Q : Option Value → Shared → Prop} (hga : findIn K (.ref D) "__getattribute__" = some (some (.builtin "BaseException.__getattribute__"))) (hgt : findIn K (.ref D) "__getattr__" = some none) (hsub : subIn K (.ref D) (.type "BaseException") = some true)
    (hf : findObj K D od "__class__" = some (.bind (.builtin "getset_descriptor.__get__") (.builtin "object.__class__"))) (hm : mroIn K D (.type "object") = some true)
    (X : K.In s.heap) (I : InstAt s.heap x ox D od) (h : Q (some (.ref D)) { s with toks := s.toks + 1 }) : wpAny (model prog w) A (getAttr? (.ref x) "__class__") Q E s := by
  obtain ⟨hp, g, d, t, os⟩ := s
  have isD := I.type (M := model prog w)
  have ga := looks_findIn (M := model prog w) X hga
  have gt := looks_findIn (M := model prog w) X hgt
  have fnd := looks_find (M := model prog w) X I hf
  have isBase : Looks (model prog w) hp (isInstance (.ref x) (.type "BaseException")) true := isD.andThen (looks_subIn X hsub)
  have differ : (Value.builtin "BaseException.__getattribute__" == Value.builtin "object.__getattribute__") = false := by decide +kernel
  have plain : (onTheHeap (Value.ref D) && Value.builtin "BaseException.__getattribute__" == Value.builtin "object.__getattribute__") = false := by rw [differ]; rfl
  unfold getAttr? getAttrBy? getAttrBy
  apply wpAny_bind
  apply wpAny_mkText
  apply wpAny_bind
  apply wpAny_attempt
  apply wpAny_holding
  apply wpAny_bind
  apply isD.at
  apply wpAny_bind
  apply ga.at
  show wpAny _ _ (if (onTheHeap (Value.ref D) && Value.builtin "BaseException.__getattribute__" == Value.builtin "object.__getattribute__") = true then _ else _) _ _ _
  rw [plain, if_neg Bool.false_ne_true]
  unfold getAttrByItsOwn hookBefore
  apply wpAny_bind
  rw [if_pos (show onTheHeap (Value.ref D) = true from rfl)]
  apply gt.at
  apply wpAny_bind
  apply wpAny_attempt
  apply wpAny_holding
  unfold callGetattribute
  rw [show (false && onTheHeap (Value.builtin "BaseException.__getattribute__")) = false from rfl, if_neg Bool.false_ne_true]
  unfold boundAndCalled
  rw [PySem.F.excAttr_ValueError.ga.bind (.ref x)]
  apply wpAny_bind
  apply wpAny_pure
  show wpAny _ _ (call (.builtin "BaseException.__getattribute__") [.ref x, .str "__class__" t]) _ _ _
  apply wpAny_call
  apply codeAny_call_builtin PySem.F.excAttr_ValueError.ga.plain PySem.F.entry_bexc_ga
  apply @check_slot (model prog w) _ _ ⟨hp, g, d, t + 1, os⟩ "BaseException.__getattribute__" "BaseException" "__getattribute__" (.ref x) [.str "__class__" t] [] _ (by decide +kernel) (by decide +kernel) isBase (PySem.F.args_bexc_ga (.ref x) (.str "__class__" t))
  unfold Builtin.«object.__getattribute__»
  refine wpAny_bind (wpAny_of_eq (a := ((Value.ref x : Value), [Value.str "__class__" t])) (by first | rfl | (simp only [slotArgs]; rfl)) ?_)
  refine wpAny_bind (wpAny_pure (wpAny_bind (isD.at (wpAny_bind (fnd.at ?_)))))
  show wpAny _ _ (holding [Value.builtin "object.__class__"] (call (.builtin "getset_descriptor.__get__") [.builtin "object.__class__", .ref x, .ref D]) >>= ret) _ _ _
  apply wpAny_bind
  apply wpAny_holding
  apply wpAny_call
  apply class_get (s := ⟨hp, g, d, t + 1, os⟩) (ox := ox) (od := od) X I hm
  apply wpAny_pure
  show wpAny _ _ (handedOut (.ref D)) _ _ _
  rw [handedOut_of (v := .ref D) rfl]
  first
    | exact wpAny_pure (wpAny_pure h)
    | exact wpAny_pure h
    | exact wpAny_pure (wpAny_bind (wpAny_pure (wpAny_pure h)))
theorem kit_error (hga : findIn K (.ref D) "__getattribute__" = some (some (.builtin "BaseException.__getattribute__"))) (hgt : findIn K (.ref D) "__getattr__" = some none) (hsub : subIn K (.ref D) (.type "BaseException") = some true) (hdct : hasDictIn K D = true)
    (hf : findObj K D od "__class__" = some (.bind (.builtin "getset_descriptor.__get__") (.builtin "object.__class__"))) (hm : mroIn K D (.type "object") = some true) : KitX K (.ref x) (.ref D) (fun h => InstAt h x ox D od) := by
  obtain ⟨cdD, hcD, _⟩ := any_some hdct
  have there : ∃ c d sl, K.lookup D = some ⟨c, d, .cls cdD, sl⟩ := by
    unfold clsIn at hcD
    split at hcD
    · next c d cd sl ho =>
      have e := Option.some.inj hcD
      subst e
      exact ⟨c, d, sl, ho⟩
    · cases hcD
  obtain ⟨c, dd, sl, ho⟩ := there
  constructor
  · intro M h X I
    exact I.type
  · intro M h X _ A' Q' E' s' k q
    unfold isType loadHead
    apply wpAny_bind
    exact wpAny_loadPart (k _ _ (X _ _ ho)) (wpAny_pure q)
  · intro h tp d its n sl2 X htp
    rw [Bool.eq_false_iff]
    intro q
    have e : D = tp := Value.ref.inj (beq_iff_eq.mp q)
    subst e
    have z := (X _ _ ho).symm.trans htp
    cases z
  · intro prog w A E Q s X I k
    exact class_of_error hga hgt hsub hf hm X I k
end
end PySem.AlX
namespace Al
open PySem PySem.Spec PyProof.Rows L2
/-- what the class D must say, so that isinstance asks its instances rightly, and their fields can be read -/
structure ErrC (K : PySem.W.Frag) (D : Addr) : Prop where
  hg : PySem.W.findIn K (.ref D) "__getattribute__" = some (some (.builtin "BaseException.__getattribute__"))
  hk : PySem.W.findIn K (.ref D) "__getattr__" = some none
  hs : PySem.W.subIn K (.ref D) (.type "BaseException") = some true
  hd : PySem.W.hasDictIn K D = true
  ha : PySem.W.findIn K (.ref D) "__class__" = some (some (.builtin "object.__class__"))
  hn : PySem.W.specialIn K (.builtin "object.__class__") "__get__" = some (some (.builtin "getset_descriptor.__get__"))
  ht : PySem.W.takesIn K (.builtin "object.__class__") = some true
  hm : PySem.W.mroIn K D (.type "object") = some true
  ct : (PySem.W.clsIn K D).isSome = true
theorem ErrC.find {K : PySem.W.Frag} {D : Addr} (C : ErrC K D) (od : Option Obj) : PySem.W.findObj K D od "__class__" = some (.bind (.builtin "getset_descriptor.__get__") (.builtin "object.__class__")) := by
  obtain ⟨cd, hc⟩ := Option.isSome_iff_exists.mp C.ct
  unfold PySem.W.findObj
  rw [hc, Option.bind_some, C.ha, Option.bind_some]
  simp [C.hn, C.ht]
/-- isinstance(e, c), e the exception that the suite holds (its class cls, its dict d) -/
def rIsD (K : PySem.W.Frag) (D a : Addr) (cls : Value) (d : Option Addr) : List V → Hp → VK → Prop := fun xs H Q => ∃ (c : V) (cv : Value) (b : Bool) (dd : Addr) (fs : List (Str × V)), xs = [.ref a, c] ∧ cls = .ref D ∧ d = some dd ∧ (∀ u, RelV c u → u = cv) ∧ PySem.W.kitOne K (.ref D) cv = some b ∧ H dd = some (.xd fs) ∧ Q (.bl b) H
theorem call_isD {X : Cx} {a D : Addr} {cls : Value} {d : Option Addr} {oe : Obj} {pn : List (Addr × Obj)} (C : ErrC X.K D) (hz : Zc cls d oe) (hf : ∃ vs, oe.data = .fields vs) : CallR (X.suite a ((a, oe) :: pn)) (.builtin "isinstance") (rIsD X.K D a cls d) := by
  intro pins s σ H xs us Q I rv h
  obtain ⟨c, cv, b, dd, fs, rfl, ecls, ed, hcv, e, hdd, q⟩ := h
  subst ecls ed
  cases rv with
  | cons rx rr =>
    cases rr with
    | cons rt rr =>
      cases rr
      cases rx
      have ec := hcv _ rt
      subst ec
      obtain ⟨hget, _⟩ := I.pin (a, oe) (List.mem_append.mpr (.inl List.mem_cons_self))
      obtain ⟨vs, hv⟩ := hf
      have hx : ObjOk X.prog X.w H s.heap dd (.xd fs) := I.hok dd _ hdd
      obtain ⟨mA, hns, _⟩ := hx
      obtain ⟨od, ho, _⟩ := lookIn_ns hns
      have J : PySem.W.InstAt s.heap a oe D (some od) := ⟨hget, hz.1, by unfold PySem.W.notCls; rw [hv] <;> rfl, by rw [hz.2]; exact ho⟩
      exact PySem.W.kia_one (PySem.AlX.kit_error C.hg C.hk C.hs C.hd (C.find _) C.hm) I.kIn J e (fun z => nomatch z) fun tk => ⟨.bl b, H, I.kept (t' := tk) fun _ _ z => z, rfl, q⟩
end Al
namespace Al
open PySem PySem.Spec PyProof.Rows L2
open Evl (Ex Ev EvT EvA EvL EvU EvO SpV RV RC RCL)
/-! ### a role for the leader is a role for a member -/
theorem anyS_up {d : PyData} (h : anyS toL d = true) : anyS toM d = true := by
  obtain ⟨z, hz, e⟩ := List.any_eq_true.mp h
  exact List.any_eq_true.mpr ⟨z, List.mem_cons_of_mem _ hz, e⟩
theorem isLetter_up {d : PyData} (h : isLetter toL d = true) : isLetter toM d = true := by
  unfold isLetter at h ⊢
  split at h
  · next k t =>
    rw [Bool.and_eq_true] at h ⊢
    exact ⟨h.1, anyS_up h.2⟩
  · cases h
theorem isLetters_up {d : PyData} (h : isLetters toL d = true) : isLetters toM d = true := by
  unfold isLetters at h ⊢
  split at h
  · next ls =>
    rw [Bool.and_eq_true] at h ⊢
    exact ⟨h.1, List.all_eq_true.mpr fun x hx => isLetter_up (List.all_eq_true.mp h.2 x hx)⟩
  · cases h
theorem isRule_up {n : Int} {d : PyData} (h : isRule toL n d = true) : isRule toM n d = true := by
  unfold isRule at h ⊢
  split at h
  · simp only [Bool.and_eq_true] at h ⊢
    exact ⟨h.1, h.2.1, isLetters_up h.2.2.1, h.2.2.2⟩
  · cases h
theorem isState_up {n : Int} {d : PyData} (h : isState toL n d = true) : isState toM n d = true := by
  unfold isState at h ⊢
  split at h
  · simp only [Bool.and_eq_true] at h ⊢
    exact ⟨h.1, List.all_eq_true.mpr fun x hx => isRule_up (List.all_eq_true.mp h.2 x hx)⟩
  · cases h
theorem isRole_up {d : PyData} (h : isRole toL d = true) : isRole toM d = true := by
  unfold isRole at h ⊢
  split at h
  · simp only [Bool.and_eq_true] at h ⊢
    exact ⟨⟨h.1.1, List.all_eq_true.mpr fun x hx => isState_up (List.all_eq_true.mp h.1.2 x hx)⟩, h.2⟩
  · cases h
theorem isRole_of {tos : List Str} {d : PyData} (h : isRole tos d = true) : ∃ ss u, d = .tuple [.tuple ss, u] ∧ (∀ s ∈ ss, WfS s) ∧ (rulesOf ss).length ≤ 4000 := by
  unfold isRole at h
  split at h
  · next ss u =>
    simp only [Bool.and_eq_true, decide_eq_true_eq] at h
    have := states_ok h.1.2 h.1.1.2
    exact ⟨ss, u, rfl, this.1, this.2⟩
  · cases h
def ssOf : PyData → List PyData
  | .tuple (.tuple ss :: _) => ss
  | _ => []
/-! ### the error, and the def that raises it -/
def clsBody : Stmt → List Stmt
  | .ClassDef _ _ _ b _ _ _ _ _ _ _ => b
  | _ => []
def initSt : Stmt := (clsBody (top 2)).getD 0 (.Pass ⟨0, 0, 0, 0⟩)
structure Bad (K : PySem.W.Frag) (mg : Str → Option Value) (C S : Addr) : Prop where
  bad : BadC K C S
  err : ErrC K C
  xf : XfC K C
  nt : PySem.W.findIn K (.ref C) "thing" = some none
  mC : mg "BadProtocol" = some (.ref C)
  mS : mg "ShelfError" = some (.ref S)
  exm : PySem.W.exmOne K (.ref C) (.ref C) = some true
  kit : PySem.W.kitOne K (.ref C) (.ref S) = some true
  init : ∃ fI fd, Fun K "__init__" "BadProtocol.__init__" initSt fI fd ∧ Binds K fd ["self", "thing"] [] ∧ PySem.W.findIn K (.ref C) "__init__" = some (some (.ref fI)) ∧ PySem.W.typeIn K (.ref fI) = some (.type "function")
def spInit (K : PySem.W.Frag) (C S : Addr) : Sp := fun vs H Q _ => ∃ (a : Addr) (y : V), vs = [.ref a, y] ∧ H a = some (exo a C none) ∧ ∀ dx, H dx = none → dx ≠ a → Q .non (upd (upd H dx (exd dx [("thing", y)])) a (exo a C (some dx)))
section
variable {P : Program} {w : World} {K : PySem.W.Frag} {mg : Str → Option Value} {base : Heap} {C S : Addr}
theorem sc_init : FnScope ["self", "thing"] ["self", "thing"] (defScope initSt) := ⟨rfl, rfl, rfl, by decide +kernel, rfl, by decide +kernel, by decide +kernel⟩
theorem ok_init (T : Bad K mg C S) {fI : Addr} {fd : FuncData} (F : Fun K "__init__" "BadProtocol.__init__" initSt fI fd) : FnOk P w K mg base CX0 1 fI fd ["self", "thing"] (spInit K C S) := by
  refine F.ok sc_init (fun vs H Q E ⟨a, y, e, _⟩ => by rw [e]; rfl) (fun cdv A outer s H vs Q E hr h => ?_)
  refine ⟨_, (pss_one (ps_fst (pv 0) (pv 1))), ?_⟩
  obtain ⟨a, y, rfl, ha, q⟩ := h
  exact ⟨y, rfl, .ref a, rfl, a, C, S, rfl, T.bad, T.nt, ha, q⟩
end
/-- a def that may let an error out -/
structure CalX (P : Program) (w : World) (K : PySem.W.Frag) (mg : Str → Option Value) (base : Heap) (k : Nat) (x p : Str) (sp : Sp) : Prop where
  ex : ∃ (f : Addr) (fd : FuncData), FnOk P w K mg base (L2.CX P w) k f fd [p] sp ∧ mg x = some (.ref f) ∧ PySem.W.keepIn K (.ref f) = true ∧ Binds K fd [p] [] ∧ ∀ (s : Shared) (u : Value), K.In s.heap → BindsTo s fd ⟨[], [(p, u)]⟩ [(p, u)]
/-- a def of one parameter, called by its name too -/
structure Def1 (K : PySem.W.Frag) (mg : Str → Option Value) (x : Str) (st : Stmt) (p : Str) : Prop where
  ex : ∃ (f : Addr) (fd : FuncData), Fun K x x st f fd ∧ mg x = some (.ref f) ∧ Binds K fd [p] [] ∧ ∀ (s : Shared) (u : Value), K.In s.heap → BindsTo s fd ⟨[], [(p, u)]⟩ [(p, u)]
theorem Def1.def {K : PySem.W.Frag} {mg : Str → Option Value} {x : Str} {st : Stmt} {p : Str} (D : Def1 K mg x st p) : Def K mg x st [p] := by
  obtain ⟨f, fd, h1, h2, h3, _⟩ := D.ex
  exact ⟨f, fd, h1, h2, h3⟩
structure Cal1 (P : Program) (w : World) (K : PySem.W.Frag) (mg : Str → Option Value) (base : Heap) (k : Nat) (x p : Str) (sp : Sp) : Prop where
  ex : ∃ (f : Addr) (fd : FuncData), FnOk P w K mg base CX0 k f fd [p] sp ∧ mg x = some (.ref f) ∧ PySem.W.keepIn K (.ref f) = true ∧ Binds K fd [p] [] ∧ ∀ (s : Shared) (u : Value), K.In s.heap → BindsTo s fd ⟨[], [(p, u)]⟩ [(p, u)]
theorem Cal1.cal {P : Program} {w : World} {K : PySem.W.Frag} {mg : Str → Option Value} {base : Heap} {k : Nat} {x p : Str} {sp : Sp} (D : Cal1 P w K mg base k x p sp) : Cal P w K mg base k x sp := by
  obtain ⟨f, fd, h1, h2, h3, h4, _⟩ := D.ex
  exact ⟨f, fd, _, h1, h2, h3, h4⟩
/-! ### f(k = e) -/
def tCallKw (sp : Sp) (E : L2.St → XK) (te : TE) : TE := fun σ H Q => te σ H fun v H1 => sp [v] H1 Q (E σ)
section
variable {X : Cx} {CX : CXT} {k : Nat} {f : Addr} {fd : FuncData} {x n : Str} {p pos kpos : Pos} {e : Expr} {te : TE} {sp : Sp} {E : L2.St → XK}
theorem pe_callKw (F : FnOk X.prog X.w X.K X.mg X.base CX k f fd [n] sp) (hr : Room k X.A) (hg : Gl X x) (hm : X.mg x = some (.ref f)) (hk : PySem.W.keepIn X.K (.ref f) = true) (hb : ∀ (s : Shared) (u : Value), X.K.In s.heap → BindsTo s fd ⟨[], [(n, u)]⟩ [(n, u)]) (hx : ∀ σ, PassesAt CX X σ (E σ))
    (he : PE X e te) (hall : (backToKw pos (keywordEach [⟨some n, e, kpos⟩] X.env)).all (·.1.isSome) = true := by rfl) (hks : (backToKw pos (keywordEach [⟨some n, e, kpos⟩] X.env)).filterMap (·.1) = [n] := by rfl)
    (hdb : (x == ("__debug__" : Str)) = false := by decide) (hpl : ((backTo pos (starEach [] X.env)).any (·.1) || (backToKw pos (keywordEach [⟨some n, e, kpos⟩] X.env)).any (·.1.isNone)) = false := by rfl) :
    PE X (.Call (.Name x p) [] [⟨some n, e, kpos⟩] pos) (tCallKw sp E te) := by
  constructor
  intro pins s σ H Q I h
  apply wpAny_Call_Name_kw
  apply ld_glob I hg hm _ hdb
  refine PySem.W.callWith_KW0 (h₀ := X.base) I.ok.mod.kin hk hall (thn ((pk_cons (nm := some n) (kpos := kpos) he pk_nil).run pos pins s σ H (fun vs H1 => sp vs H1 Q (E σ)) I h) fun us s1 ⟨vs, H1, I1, r1, q1⟩ => ?_) hpl
  rw [hks]
  have hl := F.len _ _ _ _ q1
  obtain ⟨v, rfl⟩ : ∃ v, vs = [v] := by
    cases vs with
    | nil => cases hl
    | cons v r =>
      cases r with
      | nil => exact ⟨v, rfl⟩
      | cons y r => cases hl
  obtain ⟨u, rfl, ru⟩ := vals1 r1
  refine ⟨I1.kIn, ?_⟩
  show wpAny _ _ (call (.ref f) [] [(n, u)]) _ _ _
  refine wpAny_call (codeAny_mono (F.run X.A X.stack s1 H1 ⟨[], [(n, u)]⟩ [u] [v] Q (E σ) hr I1.env0 (hb s1 u I1.kIn) r1 q1) fun r s' hq => ?_)
  cases r with
  | error er => exact hx σ pins H1 s1 er s' I1 hq
  | ok fl =>
    cases fl with
    | ret u' => exact I1.after hq
    | next => exact False.elim hq
    | brk => exact False.elim hq
    | cont => exact False.elim hq
end
theorem pass00 {X : Cx} {E : XK} : ∀ σ : L2.St, PassesAt CX0 X σ ((fun _ => E) σ) := fun _ _ _ _ _ _ _ h => h.elim
/-! ### `marks_of` -/
def spMo (C : Addr) : Sp := fun vs H Q E => ∃ (D : Ban) (d : PyData) (v : V), vs = [v] ∧ Dq D H d v ∧ fit d = true ∧
  (isRole toM d = true → ∀ r H', Ex H H' → H r = none → H' r = some (.tup ((srt (marksOf (ssOf d))).map V.str)) → Q (.ref r) H') ∧ (isRole toM d = false → ∀ dx H', Ex H H' → H' dx = none → E (.ref C) (some dx) (upd H' dx (.xd [("thing", v)])))
section
variable {P : Program} {w : World} {K : PySem.W.Frag} {mg : Str → Option Value} {base : Heap} {C S : Addr}
theorem sc_mo : FnScope ["role"] ["role"] (defScope (top 34)) := ⟨rfl, rfl, rfl, by decide +kernel, rfl, by decide +kernel, by decide +kernel⟩
theorem made_heap {H : Hp} {a dx : Addr} {u1 u2 u3 u4 : HO} (ha : H a = none) (hd : H dx = none) (ne : dx ≠ a) : upd (del (upd (upd (upd H a u1) dx u2) a u3) a) dx u4 = upd H dx u4 := by
  funext b
  by_cases e1 : b = dx
  · subst e1
    rw [upd_same, upd_same]
  · rw [upd_ne e1, upd_ne e1]
    by_cases e2 : b = a
    · subst e2
      rw [del_same, ha]
    · rw [del_ne e2, upd_ne e2, upd_ne e1, upd_ne e2]
theorem ok_mo (D1 : Def1 K mg "marks_of" (top 34) "role") (C2 : Cst2 K mg) (T : Bad K mg C S) (c_role : Cal P w K mg base 6 "has_role_form" (spV (RtoS K isRole))) (c_marks : Cal P w K mg base 2 "marks_in" spMarks) : CalX P w K mg base 7 "marks_of" "role" (spMo C) := by
  obtain ⟨f, fd, F, hm, hb, hkw⟩ := D1.ex
  obtain ⟨fI, fdI, FI, bI, iC, tI⟩ := T.init
  obtain ⟨aM, mM, sM⟩ := C2.MEMBER_SENDS_TO
  refine ⟨f, fd, F.okX sc_mo (fun vs H Q E ⟨D, d, v, e, _⟩ => by rw [e]; rfl) (fun cdv A outer s H vs Q E hr h => ?_), hm, F.kp, hb, hkw⟩
  refine ⟨_, (pss_cons (ps_if (pt_not (pt_val (pcall c_role hr (pa_cons (pv 0) (pa_cons (pref mM) pa_nil))))) (pss_one (ps_raise (W := fun cls d _ H => E cls d H) rfl (takes_of (E := E) rfl rfl rfl rfl) (pmk_bad T.bad iC tI (ok_init T FI) (hr.mono (by decide)) bI rfl T.mC (pa_cons (pv 0) pa_nil)))) pss_nil)
      (pss_one (ps_ret (pcall c_marks hr (pa_cons (pe_ix ix_tup (pv 0) pe_int (fun _ _ => rfl)) pa_nil))))), ?_⟩
  obtain ⟨D, d, v, rfl, hd, hf, qT, qE⟩ := h
  refine Evl.q_when (b := !isRole toM d) (Evl.et_not (Evl.et_B (ev_def (Evl.ea_cons (Evl.ev_var rfl) (Evl.ea_cons Evl.ev_c Evl.ea_nil)) fun H1 e1 => ⟨D, d, v, aM, toM, rfl, Dq.same e1 hd, hf, sM _, rfl⟩))) (fun hb H1 e1 => ?_) (fun hb H1 e1 => ?_)
  · have hR : isRole toM d = false := by
      cases hh : isRole toM d with
      | false => rfl
      | true => rw [hh] at hb; cases hb
    refine ⟨v, rfl, by show 1 ≤ 1000; decide, fun a ha => ⟨a, v, rfl, upd_same, fun dx hdx ne => ⟨rfl, dx, [("thing", v)], upd_same, by rw [upd_ne ne, upd_same], by rw [upd_ne ne] at hdx; exact hdx, ?_⟩⟩⟩
    rw [upd_ne ne] at hdx
    show E (.ref C) (some dx) (upd (del (upd (upd (upd H1 a (exo a C none)) dx (exd dx [("thing", v)])) a (exo a C (some dx))) a) dx (.xd [("thing", v)]))
    rw [made_heap ha hdx ne]
    exact qE hR dx H1 e1 hdx
  · have hR : isRole toM d = true := by simpa using hb
    obtain ⟨ss, u, rfl, wf, few⟩ := isRole_of hR
    obtain ⟨a, xs, rfl, _, ha, hx⟩ := (Dq.same e1 hd).tup
    obtain ⟨x1, x2, rfl, d1, d2⟩ := hx.two
    obtain ⟨c, ys, rfl, _, hc, hy⟩ := d1.tup
    refine ev_ixT (K := K) (i := 0) (Evl.ev_var rfl) Evl.ev_c (Evl.st_of ha) rfl H1 (Ex.refl H1) _ fun H2 e2 => ⟨D, ss, c, ys, rfl, e2 _ _ hc, DqL.same e2 hy, wf, few, fun r H3 e3 hr3 hs _ h3 => ?_⟩
    exact qT hR r H3 ((e1.trans e2).trans e3) (Evl.fresh_back (e1.trans e2) hr3) h3
end
end Al
namespace Al
open PySem PySem.Spec PyProof.Rows L2
open Evl (Ex Ev EvT EvA EvL EvU EvO SpV RV RC RCL)
/-! ### `_law_marks_told` -/
noncomputable def toldOf (d : PyData) : PyData := if isRole toM d = true then .tuple [.str "told", .tuple ((srt (marksOf (ssOf d))).map PyData.str)] else .tuple [.str "none", d, .bool true]
def PreTo (rs : List PyData) : Prop := ∃ (d : PyData) (k : Int), rs = [d, .int k] ∧ fit d = true
def PostTo (rs : List PyData) (r : PyData) : Prop := ∃ (d : PyData) (k : Int), rs = [d, .int k] ∧ r = toldOf d
section
variable {P : Program} {w : World} {K : PySem.W.Frag} {mg : Str → Option Value} {base : Heap} {C S : Addr}
theorem sc_told : FnScope ["_law_role", "_law_way", "e"] ["_law_role", "_law_way"] (defScope (top 58)) := ⟨rfl, rfl, rfl, by decide +kernel, rfl, by decide +kernel, by decide +kernel⟩
set_option maxHeartbeats 4000000 in
theorem ok_told (F : Def K mg "_law_marks_told" (top 58) ["_law_role", "_law_way"]) (B : Bl mg) (T : Bad K mg C S) (c_mo : CalX P w K mg base 7 "marks_of" "role" (spMo C)) : Cal P w K mg base 8 "_law_marks_told" (spN PreTo PostTo) := by
  obtain ⟨fm, fdm, Fm, mM, kM, bM, wM⟩ := c_mo.ex
  refine Cal.of F sc_told (lenN fun rs ⟨d, k, er, _⟩ => by rw [er]; rfl) (fun f cdv A outer s H vs Q E hr h => ?_)
  refine ⟨_, pss_one (ps_try_as (i := 2) (c := .ref C) (Wout := fun _ _ _ _ => False)
    (tb := fun W => tRet (tTup (tCons (tC (.str "told")) (tCons (tIf (tTest (tOp rEq (tVar 1) (tC (.int 0)))) (tCallS (spMo C) (WE W) (tCons (tVar 0) tNil)) (tCallKw (spMo C) (WE W) (tVar 0))) tNil))))
    (ts := fun a cls d => tRet (tTup (tCons (tC (.str "none")) (tCons (tXf a cls d C "thing" (tVar 2)) (tCons (tCB (rIsD K C a cls d) (tCons (tVar 2) (tCons (tC (.ref S)) tNil))) tNil)))))
    rfl rfl sc_told.nd rfl rfl ⟨rfl, by decide, .inl T.mC⟩ takes0
    (fun W pn xe tk po => pss_one (ps_ret (pe_tup (pa_cons pe_str (pa_cons (pe_ifExp (pt_cmpR op_eq (pv 1) pe_int (nomark _)) (pe_callS Fm hr rfl mM kM bM (fun σ => passAt tk σ) (pa_cons (pv 0) pa_nil)) (pe_callKw Fm hr rfl mM kM wM (fun σ => passAt tk σ) (pv 0))) pa_nil)))))
    (fun a oe cls d pn hz hf => pss_one (ps_ret (pe_tup (pa_cons pe_str (pa_cons (pe_xf T.xf T.nt hz hf (pv 2)) (pa_cons (pe_callB (call_isD T.err hz hf) (by rfl) B.isinstance b_isinstance (pa_cons (pv 2) (pa_cons (pref T.mS) pa_nil))) pa_nil))))))), ?_⟩
  obtain ⟨D, d0, l, rs, hw, hq, ⟨d, k, rfl, hfit⟩, q⟩ := h
  obtain ⟨v1, v2, rfl, q1, q2⟩ := hq.two
  unfold Dq at q2
  subst q2
  have hN : Nx D d0 l H H := hw.nx0
  have tup2 : ∀ (y : V), [V.str "told", y].length ≤ sizeLine := fun y => by show 2 ≤ sizeLine; decide
  have tup3 : ∀ (x y : V), [V.str "none", x, y].length ≤ sizeLine := fun x y => by show 3 ≤ sizeLine; decide
  have key : ∀ W : WX, (∀ dx H', isRole toM d = false → Ex H H' → H' dx = none → W (.ref C) (some dx) [some v1, some (.int k), none] (upd H' dx (.xd [("thing", v1)]))) →
      spMo C [v1] H (fun y H2 => [V.str "told", y].length ≤ sizeLine ∧ ∀ p, H2 p = none → Q (.ref p) (upd H2 p (.tup [V.str "told", y]))) (WE W [some v1, some (.int k), none]) := fun W hW => by
    refine ⟨D, d, v1, rfl, q1, hfit, fun hR r H' e hr' h' => ⟨tup2 _, fun p hp => ?_⟩, fun hR dx H' e hdx => hW dx H' hR e hdx⟩
    have nx := hw.ex e
    have np := nx.wd.new hp (.tup [V.str "told", .ref r])
    refine q (toldOf d) (.ref p) _ ⟨d, k, rfl, rfl⟩ ?_ (nx.trans np)
    unfold toldOf
    rw [if_pos hR]
    refine dq_newT nx.wd hp (DqL.cons (by unfold Dq; rfl) (DqL.cons (dq_tup (fun z => ?_) h' (DqL.strs _)) DqL.nil))
    exact hw.al r z hr'
  have catch_ : ∀ (D0 : Ends), D0.rt = Q → ∀ dx H', isRole toM d = false → Ex H H' → H' dx = none →
      wAs K (.ref C) 2 (fun a cls d => tRet (tTup (tCons (tC (.str "none")) (tCons (tXf a cls d C "thing" (tVar 2)) (tCons (tCB (rIsD K C a cls d) (tCons (tVar 2) (tCons (tC (.ref S)) tNil))) tNil))))) (fun _ _ _ _ => False) D0 (.ref C) (some dx) [some v1, some (.int k), none] (upd H' dx (.xd [("thing", v1)])) := fun D0 hD0 dx H' hR e hdx => by
    refine ⟨true, T.exm, fun _ a ha => ?_, fun z => by cases z⟩
    refine ⟨.ref a, rfl, rfl, rfl, dx, [("thing", v1)], v1, rfl, upd_same, by rfl, .ref a, rfl, .ref S, .ref S, true, dx, _, rfl, rfl, rfl, fun u ru => ru, T.kit, upd_same, tup3 _ _, fun p hp => ?_⟩
    show D0.rt (.ref p) _
    rw [hD0]
    have nx := (hw.ex e).trans ((hw.ex e).wd.new hdx (.xd [("thing", v1)]))
    refine q (toldOf d) (.ref p) _ ⟨d, k, rfl, rfl⟩ ?_ (nx.trans (nx.wd.new hp _))
    unfold toldOf
    rw [if_neg (by rw [hR]; decide)]
    exact dq_newT nx.wd hp (DqL.cons (by unfold Dq; rfl) (DqL.cons (nx.dq q1) (DqL.cons (by unfold Dq; rfl) DqL.nil)))
  refine ⟨.int k, rfl, rfl, decide (V.int k = V.int 0), rfl, ?_⟩
  cases decide (V.int k = V.int 0) with
  | true => exact ⟨v1, rfl, key _ (catch_ _ rfl)⟩
  | false => exact ⟨v1, rfl, key _ (catch_ _ rfl)⟩
end
end Al
namespace Al
open PySem PySem.Spec PyProof.Rows L2
open Evl (Ex Ev EvT EvA EvL EvU EvO SpV RV RC RCL)
/-! ### how long what is shown may be -/
theorem text_from : ∀ (ts : List Str) (k : Nat) (acc : Str), (textFrom k acc ts).length ≤ acc.length + piled ts
  | [], k, acc => by show acc.length ≤ acc.length + 0; omega
  | t :: r, k, acc => by
    have h := text_from r (k + 1) (acc ++ (if k > 0 then ", " else "" : String) ++ t)
    rw [strLen_append, strLen_append] at h
    have hs : ((if k > 0 then ", " else "" : String) : Str).length ≤ 2 := by split <;> decide +kernel
    rw [piled_cons]
    show (textFrom (k + 1) (acc ++ (if k > 0 then ", " else "" : String) ++ t) r).length ≤ _
    omega
theorem join_le (ts : List Str) : (Str.join ", " ts).length ≤ piled ts := by
  cases ts with
  | nil => decide +kernel
  | cons t r =>
    have := join_length_add (t :: r) (by simp)
    omega
theorem list_le (ts : List Str) : (listText ts).length ≤ 3 + piled ts := by
  unfold listText
  rw [strLen_append]
  have h := text_from ts 0 "["
  have e1 : ("[" : Str).length = 1 := by decide +kernel
  have e2 : ("]" : Str).length = 1 := by decide +kernel
  omega
theorem tuple_le (ts : List Str) : (tupleText ts).length ≤ 3 + piled ts := by
  unfold tupleText
  rw [strLen_append, strLen_append]
  have h := join_le ts
  have e1 : ("(" : Str).length = 1 := by decide +kernel
  have e2 : ((if ts.length == 1 then ",)" else ")" : String) : Str).length ≤ 2 := by split <;> decide +kernel
  omega
theorem dict_le (ts : List Str) : (dictText ts).length ≤ 3 + piled ts := by
  unfold dictText
  rw [strLen_append, strLen_append]
  have h := join_le ts
  have e1 : ("{" : Str).length = 1 := by decide +kernel
  have e2 : ("}" : Str).length = 1 := by decide +kernel
  omega
mutual
theorem shown_le {M I : Nat} (hI : I < 10 ^ 60) : ∀ (d : PyData) {e : Nat}, Ok M I d e → d.shown.length ≤ wt d
  | .none, _, _ => by show ("None" : Str).length ≤ 4; decide +kernel
  | .bool b, _, _ => by cases b <;> (show Str.length _ ≤ 5; decide +kernel)
  | .int i, _, h => by
    have h2 : i.natAbs ≤ I := h
    have := (sok_int (i := i) (by omega)).1
    show (Str.ofString (toString i)).length ≤ 70
    omega
  | .str z, _, h => by
    have h2 : SOk z := h
    show (PyData.str z).shown.length ≤ 10 * z.length + 2
    exact StrLaws.reprText_len z fun c hc => by
      have := h2.2 c hc
      exact Nat.lt_trans this (by decide)
  | .list ds, e, h => by
    unfold Ok at h
    have := shownL_le hI ds h.2.2
    have := list_le (PyData.shownAll ds)
    show (listText (PyData.shownAll ds)).length ≤ 3 + wtL ds
    omega
  | .tuple ds, e, h => by
    unfold Ok at h
    have := shownL_le hI ds h.2.2
    have := tuple_le (PyData.shownAll ds)
    show (tupleText (PyData.shownAll ds)).length ≤ 3 + wtL ds
    omega
  | .dict kvs, e, h => by
    unfold Ok at h
    have := shownK_le hI kvs h.2.2
    have := dict_le (PyData.shownKv kvs)
    show (dictText (PyData.shownKv kvs)).length ≤ 3 + wtK kvs
    omega
theorem shownL_le {M I : Nat} (hI : I < 10 ^ 60) : ∀ (ds : List PyData) {e : Nat}, OkL M I ds e → piled (PyData.shownAll ds) ≤ wtL ds
  | [], _, _ => Nat.le_refl _
  | d :: ds, e, h => by
    unfold OkL at h
    have h1 := shown_le hI d h.1
    have h2 := shownL_le hI ds h.2
    show piled (d.shown :: PyData.shownAll ds) ≤ wt d + 2 + wtL ds
    rw [piled_cons]
    omega
theorem shownK_le {M I : Nat} (hI : I < 10 ^ 60) : ∀ (ds : List (PyData × PyData)) {e : Nat}, OkK M I ds e → piled (PyData.shownKv ds) ≤ wtK ds
  | [], _, _ => Nat.le_refl _
  | (k, d) :: ds, e, h => by
    unfold OkK at h
    have h1 := shown_le hI k h.1
    have h2 := shown_le hI d h.2.1
    have h3 := shownK_le hI ds h.2.2
    show piled ((k.shown ++ ": " ++ d.shown) :: PyData.shownKv ds) ≤ wt k + wt d + 4 + wtK ds
    rw [piled_cons, strLen_append, strLen_append]
    have e1 : (": " : Str).length = 2 := by decide +kernel
    omega
end
/-! ### repr of data, nothing being shown around -/
def rShow : List V → Hp → VK → Prop := fun xs H Q => ∃ (D : Ban) (d : PyData) (a : Addr), xs = [.ref a] ∧ Dq D H d (.ref a) ∧ d.showable = true ∧ d.depth ≤ 1000 ∧ d.shown.length ≤ sizeLine ∧ Q (.str d.shown) H
theorem call_show {X : Cx} (hg : X.A.guards = some []) (hu : X.A.units + 1100 < cLine) (hK : (X.K.lookup sysModules).isSome = true) : CallR X (.builtin "repr") rShow := by
  intro pins s σ H xs us Q I rv h
  obtain ⟨D, d, a, rfl, hq, hs, hd, hz, q⟩ := h
  obtain ⟨u, rfl, ru⟩ := vals1 rv
  have hsys : H sysModules = none := by
    obtain ⟨o, ho⟩ := Option.isSome_iff_exists.mp hK
    exact (I.bs _ _ (I.ok.mod.kin _ _ ho)).2
  obtain ⟨as, r, hno⟩ := Dq.reads I hsys d _ _ hq ru
  cases ru
  exact PySem.repr_of_reads' r hs (fun _ => hno) hg (by omega) (fun _ _ e => e) (fun h' u tk hk => ⟨.str d.shown, H, I.kept (t' := tk) hk, ⟨u, rfl⟩, q⟩) hz
end Al
set_option exponentiation.threshold 2000
namespace Al
open PySem PySem.Spec PyProof.Rows L2
open Evl (Ex Ev EvT EvA EvL EvU EvO SpV RV RC RCL)
/-! ### sizes of what the law holds -/
def Fin (r : PyData) : Prop := Ok 3000 (10 ^ 32) r 28 ∧ wt r ≤ 7000000
theorem sh_ok {z : Str} (h : sh z = true) : SOk z ∧ z.length ≤ 12 := sok_of h
theorem isSh_ok {M I e : Nat} {r : PyData} (h : Is isSh r) : Ok M I r e ∧ wt r ≤ 122 := by
  obtain ⟨z, rfl, hz⟩ := isSh_iff h
  have := sh_ok hz
  exact ⟨by show SOk z; exact this.1, by show 10 * z.length + 2 ≤ 122; omega⟩
theorem okL_all {M I e : Nat} {p : PyData → Bool} {ds : List PyData} (h : ds.all p = true) (k : ∀ r, Is p r → Ok M I r e) : OkL M I ds e := okL_iff.mpr fun r hr => k r (List.all_eq_true.mp h r hr)
theorem wtL_all {k : Nat} {p : PyData → Bool} {ds : List PyData} (h : ds.all p = true) (hk : ∀ r, Is p r → wt r ≤ k) : wtL ds ≤ ds.length * (k + 2) := wtL_le fun r hr => hk r (List.all_eq_true.mp h r hr)
theorem isPr_ok {I : Nat} {r : PyData} (h : Is isPr r) : Ok 16 I r 1 ∧ wt r ≤ 251 := by
  unfold Is isPr at h
  split at h
  · next a b =>
    rw [Bool.and_eq_true] at h
    have ha := sh_ok h.1
    have hb := sh_ok h.2
    refine ⟨?_, by show 3 + (10 * a.length + 2 + 2 + (10 * b.length + 2 + 2 + 0)) ≤ 251; omega⟩
    unfold Ok
    refine ⟨by show 2 ≤ 16; decide, by decide, ?_⟩
    unfold OkL
    refine ⟨by show SOk a; exact ha.1, ?_⟩
    unfold OkL
    exact ⟨by show SOk b; exact hb.1, trivial⟩
  · cases h
theorem isRu_ok {r : PyData} (h : Is isRu r) : Ok 16 100 r 3 ∧ wt r ≤ 1000 := by
  obtain ⟨cs, m, f, ls, g, rfl, c1, c2, m1, l1, l2, g1⟩ := isRu_iff h
  have hm := sh_ok m1
  have hc := wtL_all (k := 122) c2 fun r hr => (isSh_ok (M := 16) (I := 100) (e := 0) hr).2
  have hl := wtL_all (k := 251) l2 fun r hr => (isPr_ok (I := 100) hr).2
  have hc2 : cs.length * (122 + 2) ≤ 2 * (122 + 2) := Nat.mul_le_mul_right _ c1
  have hl2 : ls.length * (251 + 2) ≤ 2 * (251 + 2) := Nat.mul_le_mul_right _ l1
  refine ⟨?_, by show 3 + (3 + wtL cs + 2 + (10 * m.length + 2 + 2 + (5 + 2 + (3 + wtL ls + 2 + (70 + 2 + 0))))) ≤ 1000; omega⟩
  unfold Ok
  refine ⟨by show 5 ≤ 16; decide, by decide, ?_⟩
  show OkL 16 100 [.tuple cs, .str m, .bool f, .tuple ls, .int g] 2
  simp only [OkL, Ok]
  exact ⟨⟨by omega, by decide, okL_all c2 fun r hr => (isSh_ok hr).1⟩, hm.1, trivial, ⟨by omega, by decide, okL_all l2 fun r hr => (isPr_ok hr).1⟩, g1, trivial⟩
theorem isSt_ok {r : PyData} (h : Is isSt r) : Ok 16 100 r 5 ∧ wt r ≤ 3200 := by
  obtain ⟨e, rs, rfl, e1, r1, r2⟩ := isSt_iff h
  have he := sh_ok e1
  have hr := wtL_all (k := 1000) r2 fun r hr => (isRu_ok hr).2
  have hr2 : rs.length * (1000 + 2) ≤ 3 * (1000 + 2) := Nat.mul_le_mul_right _ r1
  refine ⟨?_, by show 3 + (10 * e.length + 2 + 2 + (3 + wtL rs + 2 + 0)) ≤ 3200; omega⟩
  unfold Ok
  refine ⟨by show 2 ≤ 16; decide, by decide, ?_⟩
  show OkL 16 100 [.str e, .tuple rs] 4
  simp only [OkL, Ok]
  exact ⟨he.1, ⟨by omega, by decide, okL_all r2 fun r hr => (isRu_ok hr).1⟩, trivial⟩
theorem isUq_ok {r : PyData} (h : Is isUq r) : Ok 16 100 r 1 ∧ wt r ≤ 205 := by
  obtain ⟨m, g, rfl, m1, g1⟩ := isUq_iff h
  have hm := sh_ok m1
  refine ⟨?_, by show 3 + (10 * m.length + 2 + 2 + (70 + 2 + 0)) ≤ 205; omega⟩
  unfold Ok
  refine ⟨by show 2 ≤ 16; decide, by decide, ?_⟩
  show OkL 16 100 [.str m, .int g] 0
  simp only [OkL, Ok]
  exact ⟨hm.1, g1, trivial⟩
theorem isRo_ok {r : PyData} (h : Is isRo r) : Ok 16 100 r 7 ∧ wt r ≤ 19500 := by
  obtain ⟨ss, us, rfl, s1, s2, s3, u1, u2, u3⟩ := isRo_iff h
  have hs := wtL_all (k := 3200) s3 fun r hr => (isSt_ok hr).2
  have hs2 : ss.length * (3200 + 2) ≤ 5 * (3200 + 2) := Nat.mul_le_mul_right _ s2
  have hu := wtL_all (k := 205) u3 fun r hr => (isUq_ok hr).2
  have hu2 : us.length * (205 + 2) ≤ 16 * (205 + 2) := Nat.mul_le_mul_right _ u2
  refine ⟨?_, by show 3 + (3 + wtL ss + 2 + (3 + wtL us + 2 + 0)) ≤ 19500; omega⟩
  unfold Ok
  refine ⟨by show 2 ≤ 16; decide, by decide, ?_⟩
  show OkL 16 100 [.tuple ss, .tuple us] 6
  simp only [OkL, Ok]
  exact ⟨⟨by omega, by decide, okL_all s3 fun r hr => (isSt_ok hr).1⟩, ⟨by omega, by decide, okL_all u3 fun r hr => Ok.mono (Nat.le_refl _) (Nat.le_refl _) r (by decide) (isUq_ok hr).1⟩, trivial⟩
theorem isPro_ok {r : PyData} (h : Is isPro r) : Ok 16 100 r 8 ∧ wt r ≤ 40000 := by
  obtain ⟨a, b, rfl, ha, hb⟩ := isPro_iff h
  have h1 := isRo_ok ha
  have h2 := isRo_ok hb
  refine ⟨?_, by show 3 + (wt a + 2 + (wt b + 2 + 0)) ≤ 40000; omega⟩
  unfold Ok
  refine ⟨by show 2 ≤ 16; decide, by decide, ?_⟩
  show OkL 16 100 [a, b] 7
  simp only [OkL]
  exact ⟨h1.1, h2.1, trivial⟩
/-- after i spoilings -/
def stM : Nat → Nat
  | 0 => 16
  | i + 1 => 13 * stM i + 10
def stW : Nat → Nat
  | 0 => 40000
  | i + 1 => 13 * stW i + 9000
def StOk (i : Nat) (r : PyData) : Prop := Ok (stM i) (100 + i * 10 ^ 30) r (8 + 10 * i) ∧ wt r ≤ stW i
theorem st0 {r : PyData} (h : Is isPro r) : StOk 0 r := isPro_ok h
theorem st1 {i : Nat} {t r : PyData} (h : StOk i t) (g : GS t r) : StOk (i + 1) r := by
  have := g _ _ _ _ h.1 h.2
  refine ⟨?_, this.2⟩
  have e1 : 100 + i * 10 ^ 30 + 10 ^ 30 = 100 + (i + 1) * 10 ^ 30 := by rw [Nat.add_mul]; omega
  have e2 : 8 + 10 * i + 10 = 8 + 10 * (i + 1) := by omega
  rw [e1, e2] at this
  exact this.1
theorem st_fin {i : Nat} {r : PyData} (hi : i ≤ 2) (h : StOk i r) : Fin r := by
  have : i = 0 ∨ i = 1 ∨ i = 2 := by omega
  rcases this with rfl | rfl | rfl
  · exact ⟨Ok.mono (by decide) (by decide) r (by decide) h.1, Nat.le_trans h.2 (by decide)⟩
  · exact ⟨Ok.mono (by decide) (by decide) r (by decide) h.1, Nat.le_trans h.2 (by decide)⟩
  · exact ⟨Ok.mono (by decide) (by decide) r (by decide) h.1, Nat.le_trans h.2 (by decide)⟩
theorem any_fin {r : PyData} (h : OkA 3 r) : Fin r := ⟨Ok.mono (by decide) (by decide) r (by decide) h.1, Nat.le_trans h.2 (by decide)⟩
theorem Fin.fit {r : PyData} (h : Fin r) : Al.fit r = true := Ok.fit (by decide) (Nat.lt_of_lt_of_le (show 10 ^ 32 < 2 ^ 200 by decide) (Nat.pow_le_pow_right (by decide) (by decide))) r h.1
theorem Fin.item {ds : List PyData} (h : Fin (.tuple ds)) {x : PyData} (hx : x ∈ ds) : Fin x := by
  have h1 := h.1
  unfold Ok at h1
  refine ⟨Ok.mono (Nat.le_refl _) (Nat.le_refl _) x (by decide) (okL_iff.mp h1.2.2 x hx), ?_⟩
  have h2 : 3 + wtL ds ≤ 7000000 := h.2
  have := wtL_mem hx
  omega
/-- what may be shown -/
def Sw (r : PyData) : Prop := (∃ es, r = .tuple es) ∧ r.showable = true ∧ r.depth ≤ 1000 ∧ r.shown.length ≤ sizeLine
theorem sw_of {es : List PyData} {M e : Nat} (h : Ok M (10 ^ 32) (.tuple es) e) (he : e ≤ 1000) (hw : wt (.tuple es) ≤ 16000000) : Sw (.tuple es) :=
  ⟨⟨es, rfl⟩, Ok.show (Nat.lt_of_lt_of_le (show 10 ^ 32 < 2 ^ 200 by decide) (Nat.pow_le_pow_right (by decide) (by decide))) _ h, Nat.le_trans (Ok.deep _ h) he, Nat.le_trans (Nat.le_trans (shown_le (by decide) _ h) hw) (by decide)⟩
theorem sw_bb {a b : Bool} : Sw (.tuple [.bool a, .bool b]) := sw_of (M := 10) (e := 3) (by
  unfold Ok
  refine ⟨by show 2 ≤ 10; decide, by decide, ?_⟩
  simp only [OkL, Ok]
  exact ⟨trivial, trivial, trivial⟩) (by decide) (by show 3 + (5 + 2 + (5 + 2 + 0)) ≤ 16000000; decide)
theorem ok_marks_of {M I e : Nat} {ss : List PyData} (wf : ∀ s ∈ ss, WfS s) (h : OkL M I ss e) {m : Str} (hm : m ∈ marksOf ss) : SOk m := by
  unfold marksOf at hm
  obtain ⟨r, hr, e1⟩ := List.mem_map.mp (List.mem_filter.mp hm).1
  obtain ⟨s, hs, hrs⟩ := List.mem_flatMap.mp (show r ∈ ss.flatMap rsOf from hr)
  obtain ⟨ez, rs, rfl, wr⟩ := wf s hs
  have hrs : r ∈ rs := hrs
  obtain ⟨c, m', f, l, g, rfl⟩ := wr r hrs
  have h1 := okL_iff.mp h _ hs
  unfold Ok at h1
  have h2 := okL_iff.mp h1.2.2 (.tuple rs) (by simp)
  unfold Ok at h2
  have h3 := okL_iff.mp h2.2.2 _ hrs
  unfold Ok at h3
  have h4 := okL_iff.mp h3.2.2 (.str m') (by simp)
  have e2 : m' = m := e1
  rw [← e2]
  exact h4
theorem sw_told {d : PyData} (h : Fin d) (hs : isRole toM d = true → IsSrt (marksOf (ssOf d)) (srt (marksOf (ssOf d)))) : Sw (toldOf d) := by
  unfold toldOf
  by_cases hR : isRole toM d = true
  · rw [if_pos hR]
    obtain ⟨ss, u, rfl, wf, few⟩ := isRole_of hR
    have hs := hs hR
    have hs : IsSrt (marksOf ss) (srt (marksOf ss)) := hs
    show Sw (.tuple [.str "told", .tuple ((srt (marksOf ss)).map PyData.str)])
    have h1 := h.1
    unfold Ok at h1
    have h2 := okL_iff.mp h1.2.2 (.tuple ss) (by simp)
    unfold Ok at h2
    have so : ∀ m ∈ srt (marksOf ss), SOk m := fun m hm => ok_marks_of wf h2.2.2 ((hs.mem m).mp hm)
    have cnt : (srt (marksOf ss)).length ≤ 4000 := Nat.le_trans (nodup_le hs.nd fun y hy => (hs.mem y).mp hy) (Nat.le_trans (by rw [marksOf_in]; exact marksIn_len _) few)
    have st : SOk "told" := (sh_ok (z := "told") (by decide +kernel)).1
    have l4 : ("told" : Str).length = 4 := by decide +kernel
    have wl := wtL_le (k := 652) (a := (srt (marksOf ss)).map PyData.str) fun r hr => by
      obtain ⟨m, hm, rfl⟩ := List.mem_map.mp hr
      have := (so m hm).1
      show 10 * m.length + 2 ≤ 652
      omega
    rw [List.length_map] at wl
    have wl2 : (srt (marksOf ss)).length * (652 + 2) ≤ 4000 * (652 + 2) := Nat.mul_le_mul_right _ cnt
    refine sw_of (M := 4000) (e := 5) ?_ (by decide) (by show 3 + (10 * ("told" : Str).length + 2 + 2 + (3 + wtL ((srt (marksOf ss)).map PyData.str) + 2 + 0)) ≤ 16000000; omega)
    unfold Ok
    refine ⟨by show 2 ≤ 4000; decide, by decide, ?_⟩
    show OkL 4000 _ [.str "told", .tuple ((srt (marksOf ss)).map PyData.str)] 4
    simp only [OkL, Ok]
    refine ⟨st, ⟨by rw [List.length_map]; exact cnt, by decide, okL_iff.mpr fun r hr => ?_⟩, trivial⟩
    obtain ⟨m, hm, rfl⟩ := List.mem_map.mp hr
    exact so m hm
  · rw [if_neg hR]
    have st : SOk "none" := (sh_ok (z := "none") (by decide +kernel)).1
    have l4 : ("none" : Str).length = 4 := by decide +kernel
    have hw := h.2
    refine sw_of (M := 3000) (e := 29) ?_ (by decide) (by show 3 + (10 * ("none" : Str).length + 2 + 2 + (wt d + 2 + (5 + 2 + 0))) ≤ 16000000; omega)
    unfold Ok
    refine ⟨by show 3 ≤ 3000; decide, by decide, ?_⟩
    show OkL 3000 _ [.str "none", d, .bool true] 28
    simp only [OkL, Ok]
    exact ⟨st, h.1, trivial, trivial⟩
end Al
namespace Al
open PySem PySem.Spec PyProof.Rows L2
open Evl (Ex Ev EvT EvA EvL EvU EvO SpV RV RC RCL)
variable {D : Ban} {d l : Addr} {H : Hp}
section
variable {K : PySem.W.Frag} {σ : L2.St} {ta tb tc te tl tm : TE} {tA : TA} {t : TT} {x y z v : V} {R Ra Rb : PyData → Prop} {r : PyData} {E : XK} {Dn : Ends} {tu tz : TS}
theorem mv_show {dd : PyData} (h : Mv D d l ta σ H fun r => r = dd) (hs : Sw dd) : Mv D d l (tCB rShow (tCons ta tNil)) σ H fun r => r = .str dd.shown := fun Q q =>
  h _ fun r v H1 e b n => by
    subst e
    obtain ⟨⟨es, rfl⟩, h1, h2, h3⟩ := hs
    have b0 := b
    obtain ⟨a, xs, rfl, _, _, _⟩ := b.tup
    exact ⟨D, _, a, rfl, b0, h1, h2, h3, q _ _ H1 rfl (by unfold Dq; rfl) n⟩
theorem mt_reprs {dd : PyData} (h1 : Mv D d l ta σ H fun r => r = dd) (h2 : ∀ H1, Nx D d l H H1 → Mv D d l tb σ H1 fun r => r = dd) (hs : Sw dd) : MvT D d l (tTest (tOp rNe (tCB rShow (tCons ta tNil)) (tCB rShow (tCons tb tNil)))) σ H fun b => b = false :=
  mt_op (mv_show h1 hs) (fun r v H1 _ _ n => mv_show (h2 H1 n) hs) fun r1 v1 r2 v2 H1 a1 a2 b1 b2 n Q q => by
    subst a1 a2
    unfold Dq at b1 b2
    subst b1 b2
    refine ⟨rfl, ?_⟩
    have := q false H1 rfl n.wd.nx0
    simpa using this
theorem mv_spV {f : PyData → Bool} {dd : PyData} (h : Mv D d l ta σ H fun r => r = dd) (hf : fit dd = true) : Mv D d l (tCall (spV (R1f f)) [] E (tCons ta tNil)) σ H fun r => r = .bool (f dd) := fun Q q =>
  h _ fun r v H1 e b n => by
    subst e
    exact ⟨.bl (f r), ⟨D, r, v, rfl, b, hf, rfl⟩, fun H2 e2 => q _ _ H2 rfl (by unfold Dq; rfl) (n.ex e2)⟩
theorem mv_spVk {f : PyData → Bool} {dd : PyData} {E : L2.St → XK} (h : Mv D d l ta σ H fun r => r = dd) (hf : fit dd = true) : Mv D d l (tCallKw (spV (R1f f)) E ta) σ H fun r => r = .bool (f dd) := fun Q q =>
  h _ fun r v H1 e b n => by
    subst e
    exact ⟨.bl (f r), ⟨D, r, v, rfl, b, hf, rfl⟩, fun H2 e2 => q _ _ H2 rfl (by unfold Dq; rfl) (n.ex e2)⟩
theorem mv_lmarksW {ss : List PyData} {u : PyData} (h : Mv D d l ta σ H fun r => r = .tuple [.tuple ss, u]) (wf : ∀ s ∈ ss, WfS s) (few : (rulesOf ss).length ≤ 4000) : Mv D d l (tCall spLMarks [] E (tCons ta tNil)) σ H fun r => r = .list ((srt (marksOf ss)).map PyData.str) ∧ IsSrt (marksOf ss) (srt (marksOf ss)) := fun Q q =>
  h _ fun r v H1 e b n => by
    subst e
    obtain ⟨a, xs, rfl, na, ha, hl⟩ := b.tup
    unfold DqL at hl
    obtain ⟨x0, rest, rfl, h0, _⟩ := hl
    refine ⟨D, ss, a, x0, rest, rfl, ha, h0, wf, few, fun r H2 e2 hr hi _ h2 => ?_⟩
    have n2 := n.wd.ex e2
    exact q _ _ H2 ⟨rfl, hi⟩ (dq_lst (n.wd.nf hr) h2 (DqL.strs _)) (n.trans n2)
/-- list(x)[:k] -/
theorem mv_slL {A : List PyData → Prop} {k : Nat} (h : Mv D d l ta σ H fun r => ∃ ds, r = .list ds ∧ A ds) (hR : ∀ ds, A ds → R (.list (ds.take k))) : Mv D d l (tSl (rSlL K) ta tNoPart (tPart (tC (.int (k : Int))))) σ H R := fun Q q =>
  h _ fun r v H1 ⟨ds, e, a⟩ b n => by
    subst e
    unfold Dq at b
    obtain ⟨p, xs, rfl, _, hp, hl⟩ := b
    refine ⟨(k : Int), rfl, p, xs, rfl, Evl.sq_of hp, fun p' hp' => ?_⟩
    have := dqL_cut hl none (some (k : Int))
    rw [cutD_to] at this
    exact q _ _ _ (hR ds a) (dq_newL n.wd hp' this) (n.trans (n.wd.new hp' _))
/-- a loop over a list of data at the end of a body -/
theorem s_forLM {j : Nat} {Fx : PyData → Prop} (h : Mv D d l tl σ H fun r => ∃ es, r = .list es ∧ ∀ x ∈ es, Fx x) (Sh : L2.St → Prop) (h0 : Sh σ)
    (hs : ∀ x v H0 σ' H', Fx x → Dq D H' x v → Nx D d l H0 H' → Sh σ' → tu { Dn with nx := fun σ2 H2 => Nx D d l H0 H2 ∧ Sh σ2, ct := fun σ2 H2 => Nx D d l H0 H2 ∧ Sh σ2, bk := Dn.nx } (σ'.set j (some v)) H')
    (hd : ∀ σ' H', Nx D d l H H' → Sh σ' → Dn.nx σ' H') : tFor (iList K tl) (gName j) tu Dn σ H :=
  h _ fun r v H0 ⟨es, e, hes⟩ b n => by
    subst e
    unfold Dq at b
    obtain ⟨a, xs, rfl, na, ha, hl⟩ := b
    refine ⟨a, rfl, ⟨xs, Evl.sq_of ha⟩, for_list (fun i σ' H' => Nx D d l H0 H' ∧ Sh σ') ⟨n.wd.nx0, h0⟩ (fun i σ' H' _ P => Evl.sq_of (P.1.keep ha fun z => na (n.wd.sub _ z))) (fun i x σ' H' hi P => ?_) fun σ' H' P => hd σ' H' (n.trans P.1) P.2⟩
    obtain ⟨dx, hdx, hq⟩ := hl.getV hi
    exact hs dx x H0 σ' H' (hes dx (List.mem_of_getElem? hdx)) (P.1.dq hq) P.1 P.2
end
end Al
namespace Al
open PySem PySem.Spec PyProof.Rows L2
open Evl (Ex Ev EvT EvA EvL EvU EvO SpV RV RC RCL)
section
variable {P : Program} {w : World} {K : PySem.W.Frag} {mg : Str → Option Value} {base : Heap} {C S : Addr}
theorem ok_isprot1 (D1 : Def1 K mg "is_protocol" (top 33) "thing") (c_has_protocol_form : Cal P w K mg base 7 "has_protocol_form" (spV (R1f isProt))) : Cal1 P w K mg base 8 "is_protocol" "thing" (spV (R1f isProt)) := by
  obtain ⟨f, fd, F, hm, hb, hkw⟩ := D1.ex
  refine ⟨f, fd, F.ok sc_isprot (len_spV fun vs H z ⟨D, d, v, h, _⟩ => by rw [h]; rfl) (fun cdv A outer s H vs Q E hr h => ?_), hm, F.kp, hb, hkw⟩
  obtain ⟨z, ⟨D, d, v, rfl, hd, hf, rfl⟩, q⟩ := h
  refine ⟨_, (pss_one (ps_ret (pcall c_has_protocol_form hr (pa_cons (pv 0) pa_nil)))), ?_⟩
  exact Evl.s_ret (ev_def (Evl.ea_cons (Evl.ev_var rfl) Evl.ea_nil) fun H1 e1 => ⟨D, d, v, rfl, Dq.same e1 hd, hf, rfl⟩) q
theorem sc_law : FnScope ["_law_script", "_law_deck_here", "_law_turn", "_law_thing", "_law_again", "_law_due", "_law_some", "_law_role", "_law_is_right"] ["_law_script"] (defScope (top 59)) := ⟨rfl, rfl, rfl, by decide +kernel, rfl, by decide +kernel, by decide +kernel⟩
set_option maxHeartbeats 4000000 in
theorem ok_law {f a : Addr} {fd : FuncData} {s : Shared} {H : Hp} {ns : List Int} (F : Fun K "law" "law" (top 59) f fd) (hb : ∀ (s : Shared) (u : Value), BindsTo s fd ⟨[u], []⟩ [("_law_script", u)]) (B : Bl mg) (hK : (K.lookup sysModules).isSome = true) (e0 : Env0 P w K mg base callerA [] s H) (hS : SqL K H a (ns.map V.int))
    (c_deck : Cal P w K mg base 1 "_law_deck" (spDeck K)) (c_dp : Cal P w K mg base 5 "_law_drawn_protocol" (spM PreNil PostPro)) (c_pick : Cal P w K mg base 2 "_law_pick" (spM PrePick PostPick)) (c_sp : Cal P w K mg base 29 "_law_spoilt" (spM (PreSp 20) PostSp)) (c_draw : Cal P w K mg base 1 "_law_draw" spDraw) (c_any : Cal P w K mg base 7 "_law_any" (spM (PreAny 3) PostAny))
    (c_lprot : Cal P w K mg base 5 "_law_is_protocol" (spV (R1f isProt))) (c1 : Cal1 P w K mg base 8 "is_protocol" "thing" (spV (R1f isProt))) (c_lrole : Cal P w K mg base 4 "_law_is_role" (spV RLo)) (c_lmarks : Cal P w K mg base 1 "_law_marks" spLMarks) (c_told : Cal P w K mg base 8 "_law_marks_told" (spN PreTo PostTo)) :
    codeAny (model P w) callerA (.call (.ref f) ⟨[.ref a], []⟩) (CR CX0 [] P w H s (fun v _ => v = .bl true) fun _ _ _ => False) s := by
  have hr0 : Room 31 callerA := ⟨rfl, by decide, by decide⟩
  obtain ⟨f1, fd1, F1, m1, k1, b1, w1⟩ := c1.ex
  refine call_told (vs := [.ref a]) (us := [.ref a]) F sc_law rfl hr0 e0 (hb _ _) (.cons rfl .nil) fun cdv => ?_
  have hr := hr0.deeper (envOfC "law" (defScope (top 59)) s.heap.objs.size f cdv)
  have hg : (callerA.deeper (envOfC "law" (defScope (top 59)) s.heap.objs.size f cdv)).guards = some [] := rfl
  have hu : (callerA.deeper (envOfC "law" (defScope (top 59)) s.heap.objs.size f cdv)).units + 1100 < cLine := by show 4 + 3 + 1100 < cLine; decide
  refine ⟨_, (pss_cons (ps_set (i := 1) sc_law.nd rfl (.inl rfl) (pcall c_deck hr (pa_cons (pv 0) (pa_cons pe_int pa_nil))))
      (pss_cons (ps_for PassesOwn.never rfl (pi_range1 rfl B.range (pa_cons pe_int pa_nil)) (pg_name (i := 2) sc_law.nd rfl (.inl rfl)) (pss_cons (ps_set (i := 3) sc_law.nd rfl (.inl rfl) (pcall c_dp hr (pa_cons (pv 1) pa_nil)))
      (pss_cons (ps_for PassesOwn.never rfl (pi_range1 rfl B.range (pa_cons (pcall c_pick hr (pa_cons (pv 1) (pa_cons (pe_lst (pa_cons pe_int (pa_cons pe_int (pa_cons pe_int (pa_cons pe_int pa_nil))))) pa_nil))) pa_nil)) (pg_name (i := 4) sc_law.nd rfl (.inl rfl)) (pss_one (ps_set (i := 3) sc_law.nd rfl (.inl rfl) (pcall c_sp hr (pa_cons (pv 1) (pa_cons (pv 3) pa_nil))))))
      (Evl.pss_cut (ps_if (pt_cmpR op_eq (pcall c_draw hr (pa_cons (pv 1) (pa_cons pe_int pa_nil))) pe_int (nomark _)) (pss_one (ps_set (i := 3) sc_law.nd rfl (.inl rfl) (pcall c_any hr (pa_cons (pv 1) (pa_cons pe_int pa_nil))))) pss_nil)
      (pss_cons (ps_set (i := 5) sc_law.nd rfl (.inl rfl) (pcall c_lprot hr (pa_cons (pv 3) pa_nil)))
      (pss_cons (ps_if (pt_cmpR op_ne (pe_callB (call_show hg hu hK) (by rfl) B.repr b_repr (pa_cons (pe_tup (pa_cons (pcall c1.cal hr (pa_cons (pv 3) pa_nil)) (pa_cons (pe_callKw (E := fun _ => E0) F1 (hr.mono (by decide)) rfl m1 k1 w1 pass00 (pv 3)) pa_nil))) pa_nil)) (pe_callB (call_show hg hu hK) (by rfl) B.repr b_repr (pa_cons (pe_tup (pa_cons (pv 5) (pa_cons (pv 5) pa_nil))) pa_nil)) (nomark _)) (pss_one (ps_ret pe_bl)) pss_nil)
      (pss_cons (ps_set (i := 6) sc_law.nd rfl (.inl rfl) (pe_ifExp (pt_val (pe_callB call_isi (by rfl) B.isinstance b_isinstance (pa_cons (pv 3) (pa_cons (pty B.tuple b_tuple) pa_nil)))) (pe_slice sl_list (pe_callTy call_list_of (by rfl) B.list b_list (pa_cons (pv 3) pa_nil)) po_none (po_some pe_int)) (pe_lst pa_nil)))
      (pss_one (ps_for PassesOwn.never rfl (pi_list (pe_op op_cat (pv 6) (pe_lst (pa_cons (pv 3) pa_nil)))) (pg_name (i := 7) sc_law.nd rfl (.inl rfl)) (pss_cons (ps_set (i := 8) sc_law.nd rfl (.inl rfl) (pe_or (pcall c_lrole hr (pa_cons (pv 7) (pa_cons pe_bl pa_nil))) (pe_one (pcall c_lrole hr (pa_cons (pv 7) (pa_cons pe_bl pa_nil))))))
      (pss_cons (ps_set (i := 5) sc_law.nd rfl (.inl rfl) (pe_ifExp (pt_val (pv 8)) (pe_tup (pa_cons pe_str (pa_cons (pe_tupleOf (by rfl) B.tuple (pcall c_lmarks hr (pa_cons (pv 7) pa_nil))) pa_nil))) (pe_tup (pa_cons pe_str (pa_cons (pv 7) (pa_cons pe_bl pa_nil))))))
      (pss_one (ps_if (pt_cmpR op_ne (pe_callB (call_show hg hu hK) (by rfl) B.repr b_repr (pa_cons (pcall c_told hr (pa_cons (pv 7) (pa_cons (pe_op op_mod (pe_callTy call_int1 (by rfl) B.int b_int (pa_cons (pv 2) pa_nil)) pe_int) pa_nil))) pa_nil)) (pe_callB (call_show hg hu hK) (by rfl) B.repr b_repr (pa_cons (pv 5) pa_nil)) (nomark _)) (pss_one (ps_ret pe_bl)) pss_nil)))))))))))))
      (pss_one (ps_ret pe_bl)))), ?_⟩
  -- the deck
  refine ⟨.ref a, rfl, a, ns, 13748001, rfl, hS, fun d l H1 e1 hd0 hl0 hk => ?_⟩
  have hw : Wd (Dd d l) d l H1 := ⟨fun _ h => h, hk, fun b hb' => hk.al hb'⟩
  show tSeq _ _ _ [some (.ref a), some (.ref d), none, none, none, none, none, none, none] H1
  refine Evl.q_forR1 (n := 6) (Evl.ea_cons Evl.ev_c Evl.ea_nil) (by decide)
    (fun i σ' H' => Wd (Dd d l) d l H' ∧ ∃ x2 x3 x4 x5 x6 x7 x8, σ' = [some (.ref a), some (.ref d), x2, x3, x4, x5, x6, x7, x8])
    (fun H2 e2 => ⟨(hw.ex e2).wd, none, none, none, none, none, none, none, rfl⟩) (fun i σ' H' hi P => ?_) fun σ' H' P => ?_
  · obtain ⟨w0, x2, x3, x4, x5, x6, x7, x8, rfl⟩ := P
    refine q_mv (R := Is isPro) (mv_callM (kd := 1) (Rs := fun rs => rs = []) rfl (mva_nil w0 rfl) fun rs e => ⟨e, fun r h => h⟩) fun r v H2 hr2 br n2 => ?_
    show tSeq _ _ _ [some (.ref a), some (.ref d), some (.int (i : Int)), some v, x4, x5, x6, x7, x8] H2
    refine q_forR1M (D := Dd d l) (d := d) (l := l) (n := 2) (by decide) (mva_one ((mv_pickF n2.wd (kd := 1) rfl (Evl.ea_cons Evl.ev_c (Evl.ea_cons Evl.ev_c (Evl.ea_cons Evl.ev_c (Evl.ea_cons Evl.ev_c Evl.ea_nil)))) (by decide +kernel)).imp fun r ⟨v, hv, e⟩ => ?_))
      (fun j σ' H' => Wd (Dd d l) d l H' ∧ ∃ r v x4, StOk j r ∧ Dq (Dd d l) H' r v ∧ σ' = [some (.ref a), some (.ref d), some (.int (i : Int)), some v, x4, x5, x6, x7, x8])
      (fun H3 n3 => ⟨n3.wd, r, v, x4, st0 hr2, n3.dq br, rfl⟩) (fun j σ' H' hj P => ?_) fun j σ' H' hj P => ?_
    · simp only [List.mem_cons, List.not_mem_nil, or_false] at hv
      rcases hv with rfl | rfl | rfl | rfl
      · exact ⟨0, by rw [e]; rfl, by decide, by decide⟩
      · exact ⟨1, by rw [e]; rfl, by decide, by decide⟩
      · exact ⟨1, by rw [e]; rfl, by decide, by decide⟩
      · exact ⟨2, by rw [e]; rfl, by decide, by decide⟩
    · obtain ⟨wj, r, v, x4, hst, bq, rfl⟩ := P
      have hlim : stM j ≤ 1000 ∧ 100 + j * 10 ^ 30 < 10 ^ 60 ∧ 8 + 10 * j ≤ 20 := by
        have : j = 0 ∨ j = 1 := by omega
        rcases this with rfl | rfl <;> decide
      exact s_mv (R := StOk (j + 1)) (mv_spoilt (kd := 1) (n := 20) rfl (mv_var wj rfl bq rfl) (Nat.le_trans (Ok.deep _ hst.1) hlim.2.2) hst.1 hlim.1 hlim.2.1 fun r h => st1 hst h) fun r' v' H3 hr3 b3 n3 => ⟨n3.wd, r', v', _, hr3, b3, rfl⟩
    · obtain ⟨wj, r, v, x4, hst, bq, rfl⟩ := P
      refine ⟨fun σ' H' => Wd (Dd d l) d l H' ∧ ∃ r v, Fin r ∧ Dq (Dd d l) H' r v ∧ σ' = [some (.ref a), some (.ref d), some (.int (i : Int)), some v, x4, x5, x6, x7, x8], ?_, ?_⟩
      · refine s_ifM (D := Dd d l) (d := d) (l := l) (Rb := fun _ => True) (mt_eq ((mv_drawC wj (kd := 1) rfl).imp fun r ⟨i, e, _⟩ => ⟨i, e, trivial⟩)) (fun _ H3 n3 => ?_) (fun _ H3 n3 => ⟨n3.wd, r, v, st_fin hj hst, n3.dq bq, rfl⟩)
        exact s_mv (mv_any (kd := 1) (k := 3) rfl (mv_int n3.wd Evl.ev_c rfl) (Nat.le_refl _)) fun r' v' H4 hr4 b4 n4 => ⟨n4.wd, r', v', any_fin hr4, b4, rfl⟩
      · rintro σ' H' ⟨w1, r, v, hF, bq, rfl⟩
        refine q_mv (R := fun r' => r' = .bool (isProt r)) (mv_spV (mv_var w1 rfl bq rfl) hF.fit) fun r' v5 H3 e5 b5 n3 => ?_
        subst e5
        show tSeq _ _ _ [some (.ref a), some (.ref d), some (.int (i : Int)), some v, x4, some v5, x6, x7, x8] H3
        refine q_whenM (Rb := fun b => b = false) (mt_reprs (dd := .tuple [.bool (isProt r), .bool (isProt r)]) (mv_tup (mva_cons (mv_spV (f := isProt) (mv_var n3.wd rfl (n3.dq bq) rfl) hF.fit) fun r1 v1 H4 a1 _ n4 => mva_one ((mv_spVk (f := isProt) (mv_var n4.wd rfl ((n3.trans n4).dq bq) rfl) hF.fit).imp fun r2 a2 => ?_))) (fun H4 n4 => mv_tup (mva_ev (vs := [v5, v5]) (rs := [.bool (isProt r), .bool (isProt r)]) n4.wd (Evl.ea_cons (Evl.ev_var rfl) (Evl.ea_cons (Evl.ev_var rfl) Evl.ea_nil)) (DqL.cons (n4.dq b5) (DqL.cons (n4.dq b5) DqL.nil)) ⟨by show 2 ≤ 100000; decide, rfl⟩)) sw_bb) (fun z => by cases z) fun _ H4 n4 => ?_
        · rw [a1, a2]
          exact ⟨by show 2 ≤ 100000; decide, rfl⟩
        have n34 := n3.trans n4
        have bq4 := n34.dq bq
        refine q_mv (R := fun r' => ∃ es, r' = .list es ∧ es.length ≤ 3 ∧ ∀ x ∈ es, Fin x) (mv_if (b := isTup r) n4.wd (Evl.et_B (ev_isi (Evl.ev_var rfl) bq4 (kb_tup r))) (fun hb H5 n5 _ => ?_) (fun _ H5 n5 _ => mv_lst (mva_nil n5.wd ⟨Nat.zero_le _, [], rfl, Nat.zero_le _, fun x hx => by cases hx⟩))) fun r6 v6 H5 ⟨es, e6, hle, hes⟩ b6 n5 => ?_
        · obtain ⟨ds, rfl⟩ := isTup_iff hb
          exact mv_slL (k := 3) (A := fun es => es = ds) (mv_listT (A := fun es => es = ds) (mv_var n5.wd rfl (n5.dq bq4) ⟨ds, rfl, rfl⟩) fun es ee => ⟨es, rfl, ee⟩) fun es ee => ⟨_, rfl, by rw [List.length_take]; omega, fun x hx => hF.item (by rw [← ee]; exact List.mem_of_mem_take hx)⟩
        subst e6
        have bq5 := n5.dq bq4
        show tFor _ _ _ _ [some (.ref a), some (.ref d), some (.int (i : Int)), some v, x4, some v5, some v6, x7, x8] H5
        refine s_forLM (D := Dd d l) (d := d) (l := l) (Fx := Fin) (mv_catL (A := fun fs => fs = es) (B := fun fs => fs = [r]) (mv_var n5.wd rfl b6 ⟨es, rfl, rfl⟩) (fun H6 n6 => mv_lst (mva_one (mv_var n6.wd rfl (n6.dq bq5) ⟨one_le, _, rfl, rfl⟩))) fun f1 f2 e1 e2 => ?_)
          (fun σ' => ∃ x4 x5 x6 x7 x8, σ' = [some (.ref a), some (.ref d), some (.int (i : Int)), some v, x4, x5, x6, x7, x8]) ⟨_, _, _, _, _, rfl⟩ (fun x u H0 σ' H' hFx bx n0 hσ => ?_) fun σ' H' n6 hσ => ?_
        · subst e1 e2
          refine ⟨by rw [List.length_singleton]; omega, _, rfl, fun x hx => ?_⟩
          rcases List.mem_append.mp hx with hx | hx
          · exact hes x hx
          · rw [List.mem_singleton.mp hx]
            exact hF
        · obtain ⟨y4, y5, y6, y7, y8, rfl⟩ := hσ
          show tSeq _ _ _ [some (.ref a), some (.ref d), some (.int (i : Int)), some v, y4, y5, y6, some u, y8] H'
          have role : ∀ (b : Bool) (H6 : Hp), Ex H' H6 → Ev (tCall (spV RLo) [] E0 (tCons (tVar 7) (tCons (tC (.bl b)) tNil))) [some (.ref a), some (.ref d), some (.int (i : Int)), some v, y4, y5, y6, some u, y8] H6 (.bl (isRole (lawL b) x)) := fun b H6 e6 => ev_def (Evl.ea_cons (Evl.ev_var rfl) (Evl.ea_cons Evl.ev_c Evl.ea_nil)) fun H7 e7 => ⟨Dd d l, x, u, b, rfl, Dq.same (e6.trans e7) bx, hFx.fit, rfl⟩
          have both : (isRole (lawL true) x || isRole (lawL false) x) = isRole toM x := by
            show (isRole toL x || isRole toM x) = isRole toM x
            cases h1 : isRole toL x with
            | true => rw [isRole_up h1]; rfl
            | false => rfl
          refine Evl.q_asg (Evl.ev_orV (role true H' (Ex.refl H')) fun _ => role false H' (Ex.refl H')) fun H6 e6 => ?_
          rw [both]
          have n6 := n0.ex e6
          have bx6 := (n0.wd.ex e6).dq bx
          show tSeq _ _ _ [some (.ref a), some (.ref d), some (.int (i : Int)), some v, y4, y5, y6, some u, some (.bl (isRole toM x))] H6
          refine q_mv (R := fun r' => r' = toldOf x ∧ (isRole toM x = true → IsSrt (marksOf (ssOf x)) (srt (marksOf (ssOf x))))) (mv_if (b := isRole toM x) n6.wd (Evl.et_B (Evl.ev_var rfl)) (fun hR H7 n7 _ => ?_) (fun hR H7 n7 _ => ?_)) fun r7 v7 H7 ⟨e7, hsrt⟩ b7 n7 => ?_
          · obtain ⟨ss, uu, rfl, wf, few⟩ := isRole_of hR
            refine mv_tup (mva_cons (Ra := fun r => r = .str "told") (mv_str n7.wd Evl.ev_c rfl) fun r1 w1 H8 a1 _ n8 => mva_one (mv_tupOf ((mv_lmarksW (mv_var n8.wd rfl ((n7.trans n8).dq bx6) rfl) wf few).imp fun r2 ⟨a2, hs⟩ => ⟨_, .inl a2, by show 2 ≤ 100000; decide, ?_, fun _ => hs⟩)))
            rw [a1]
            unfold toldOf
            rw [if_pos hR]
            rfl
          · refine mv_tup (mva_cons (Ra := fun r => r = .str "none") (mv_str n7.wd Evl.ev_c rfl) fun r1 w1 H8 a1 _ n8 => mva_cons (Ra := fun r => r = x) (mv_var n8.wd rfl ((n7.trans n8).dq bx6) rfl) fun r2 w2 H9 a2 _ n9 => mva_one (mv_bl n9.wd Evl.ev_c ⟨by show 3 ≤ 100000; decide, ?_, fun z => by rw [hR] at z; cases z⟩))
            rw [a1, a2]
            unfold toldOf
            rw [if_neg (by rw [hR]; decide)]
          · subst e7
            have N7 := n6.trans n7
            have bx7 := n7.dq bx6
            show tIfS _ _ _ _ [some (.ref a), some (.ref d), some (.int (i : Int)), some v, y4, some v7, y6, some u, some (.bl (isRole toM x))] H7
            refine s_ifM (D := Dd d l) (d := d) (l := l) (Rb := fun b => b = false) (mt_reprs (dd := toldOf x) (mv_callN (Rs := fun rs => ∃ k : Int, rs = [x, .int k]) (mva_cons (Ra := fun r => r = x) (mv_var n7.wd rfl bx7 rfl) fun r1 w1 H8 a1 _ n8 => mva_one (mv_int n8.wd (ev_mod (ev_int1 (Evl.ev_var rfl)) Evl.ev_c (by decide)) ⟨(i : Int) % 2, by rw [a1]⟩)) fun rs ⟨k, e⟩ => ⟨⟨x, k, e, hFx.fit⟩, fun r ⟨d', k', e', er⟩ => ?_⟩) (fun H8 n8 => mv_var n8.wd rfl (n8.dq b7) rfl) (sw_told hFx hsrt)) (fun z => by cases z) fun _ H8 n8 => ⟨N7.trans n8, _, _, _, _, _, rfl⟩
            rw [e] at e'
            have := (two_in e').1
            rw [er, this]
        · obtain ⟨y4, y5, y6, y7, y8, rfl⟩ := hσ
          exact ⟨n6.wd, _, _, _, _, _, _, _, rfl⟩
  · exact Evl.s_ret Evl.ev_c fun H2 e2 => rfl
end
end Al
namespace Al
open PySem PySem.Spec PyProof.Rows L2
section
variable {K : PySem.W.Frag} {h : Heap} {mg : Str → Option Value}
/-- a def of the text, from what the written part says -/
theorem def_mk {x : Str} {st : Stmt} {ps : List Str} {f : Addr} {oc : Value} {od an : Option Addr} {osl : Array (Option Value)} {kV doc pm cdv ct : Value} (X : K.In h) (G : h.Ns mainGlobals mg) (a : PySem.W.nsIn K mainGlobals x = some (some (.ref f)))
    (l : K.lookup f = some ⟨oc, od, .func (PySem.W.fnOf x x (defArgs st) (defBody st) (defScope st) .none kV doc pm an cdv ct), osl⟩) (c : PySem.W.codeIn K cdv x = true) (k : PySem.W.keepIn K (.ref f) = true)
    (hb : ∀ (kV doc pm : Value) (an : Option Addr) (cdv ct : Value) (us : List Value), us.length = ps.length → bindArgs (PySem.W.fnOf x x (defArgs st) (defBody st) (defScope st) .none kV doc pm an cdv ct) ⟨us, []⟩ = pure (ps.zip us)) : Def K mg x st ps :=
  ⟨f, _, fun_mk l c k, PySem.W.mg_of X G a, (fun_mk l c k).binds hb⟩
theorem def1_mk {x p : Str} {st : Stmt} {f : Addr} {oc : Value} {od an : Option Addr} {osl : Array (Option Value)} {kV doc pm cdv ct : Value} (X : K.In h) (G : h.Ns mainGlobals mg) (a : PySem.W.nsIn K mainGlobals x = some (some (.ref f)))
    (l : K.lookup f = some ⟨oc, od, .func (PySem.W.fnOf x x (defArgs st) (defBody st) (defScope st) .none kV doc pm an cdv ct), osl⟩) (c : PySem.W.codeIn K cdv x = true) (k : PySem.W.keepIn K (.ref f) = true)
    (hb : ∀ (kV doc pm : Value) (an : Option Addr) (cdv ct : Value) (us : List Value), us.length = [p].length → bindArgs (PySem.W.fnOf x x (defArgs st) (defBody st) (defScope st) .none kV doc pm an cdv ct) ⟨us, []⟩ = pure ([p].zip us))
    (hk : ∀ (kV doc pm : Value) (an : Option Addr) (cdv ct u : Value), bindArgs (PySem.W.fnOf x x (defArgs st) (defBody st) (defScope st) .none kV doc pm an cdv ct) ⟨[], [(p, u)]⟩ = pure [(p, u)]) : Def1 K mg x st p :=
  ⟨f, _, fun_mk l c k, PySem.W.mg_of X G a, (fun_mk l c k).binds hb, fun s u _ => .of_eq (hk _ _ _ _ _ _ u)⟩
theorem tup_mk {x : Str} {a : Addr} {od : Option Addr} {its : Array Value} {n : Nat} {sl : Array (Option Value)} {xs : List V} (X : K.In h) (G : h.Ns mainGlobals mg) (e : PySem.W.nsIn K mainGlobals x = some (some (.ref a))) (l : K.lookup a = some ⟨.type "tuple", od, .seq its n, sl⟩) (hz : its.size ≤ sizeLine) (r : Vals xs its.toList) :
    ∃ a, mg x = some (.ref a) ∧ ∀ H, SqT K H a xs := ⟨a, PySem.W.mg_of X G e, fun _ => .inr ⟨_, its, n, l, rfl, rfl, hz, r⟩⟩
end

theorem bd_6 : ∀ (kV doc pm : Value) (an : Option Addr) (cdv ct : Value) (us : List Value), us.length = (["thing"] : List Str).length → bindArgs (PySem.W.fnOf "is_integer" "is_integer" (defArgs (top 6)) (defBody (top 6)) (defScope (top 6)) .none kV doc pm an cdv ct) ⟨us, []⟩ = pure ((["thing"] : List Str).zip us) := fun _ _ _ _ _ _ us hl => match us, hl with | [_], _ => rfl
theorem bd_7 : ∀ (kV doc pm : Value) (an : Option Addr) (cdv ct : Value) (us : List Value), us.length = (["thing", "low", "high"] : List Str).length → bindArgs (PySem.W.fnOf "is_integer_in" "is_integer_in" (defArgs (top 7)) (defBody (top 7)) (defScope (top 7)) .none kV doc pm an cdv ct) ⟨us, []⟩ = pure ((["thing", "low", "high"] : List Str).zip us) := fun _ _ _ _ _ _ us hl => match us, hl with | [_, _, _], _ => rfl
theorem bd_8 : ∀ (kV doc pm : Value) (an : Option Addr) (cdv ct : Value) (us : List Value), us.length = (["thing"] : List Str).length → bindArgs (PySem.W.fnOf "is_word" "is_word" (defArgs (top 8)) (defBody (top 8)) (defScope (top 8)) .none kV doc pm an cdv ct) ⟨us, []⟩ = pure ((["thing"] : List Str).zip us) := fun _ _ _ _ _ _ us hl => match us, hl with | [_], _ => rfl
theorem bd_9 : ∀ (kV doc pm : Value) (an : Option Addr) (cdv ct : Value) (us : List Value), us.length = (["thing", "many"] : List Str).length → bindArgs (PySem.W.fnOf "is_tuple_of" "is_tuple_of" (defArgs (top 9)) (defBody (top 9)) (defScope (top 9)) .none kV doc pm an cdv ct) ⟨us, []⟩ = pure ((["thing", "many"] : List Str).zip us) := fun _ _ _ _ _ _ us hl => match us, hl with | [_, _], _ => rfl
theorem bd_10 : ∀ (kV doc pm : Value) (an : Option Addr) (cdv ct : Value) (us : List Value), us.length = (["items"] : List Str).length → bindArgs (PySem.W.fnOf "ascending" "ascending" (defArgs (top 10)) (defBody (top 10)) (defScope (top 10)) .none kV doc pm an cdv ct) ⟨us, []⟩ = pure ((["items"] : List Str).zip us) := fun _ _ _ _ _ _ us hl => match us, hl with | [_], _ => rfl
theorem bd_20 : ∀ (kV doc pm : Value) (an : Option Addr) (cdv ct : Value) (us : List Value), us.length = (["thing"] : List Str).length → bindArgs (PySem.W.fnOf "has_protocol_form" "has_protocol_form" (defArgs (top 20)) (defBody (top 20)) (defScope (top 20)) .none kV doc pm an cdv ct) ⟨us, []⟩ = pure ((["thing"] : List Str).zip us) := fun _ _ _ _ _ _ us hl => match us, hl with | [_], _ => rfl
theorem bd_21 : ∀ (kV doc pm : Value) (an : Option Addr) (cdv ct : Value) (us : List Value), us.length = (["thing", "sends_to"] : List Str).length → bindArgs (PySem.W.fnOf "has_role_form" "has_role_form" (defArgs (top 21)) (defBody (top 21)) (defScope (top 21)) .none kV doc pm an cdv ct) ⟨us, []⟩ = pure ((["thing", "sends_to"] : List Str).zip us) := fun _ _ _ _ _ _ us hl => match us, hl with | [_, _], _ => rfl
theorem bd_22 : ∀ (kV doc pm : Value) (an : Option Addr) (cdv ct : Value) (us : List Value), us.length = (["thing", "many", "sends_to"] : List Str).length → bindArgs (PySem.W.fnOf "has_state_form" "has_state_form" (defArgs (top 22)) (defBody (top 22)) (defScope (top 22)) .none kV doc pm an cdv ct) ⟨us, []⟩ = pure ((["thing", "many", "sends_to"] : List Str).zip us) := fun _ _ _ _ _ _ us hl => match us, hl with | [_, _, _], _ => rfl
theorem bd_23 : ∀ (kV doc pm : Value) (an : Option Addr) (cdv ct : Value) (us : List Value), us.length = (["thing", "many", "sends_to"] : List Str).length → bindArgs (PySem.W.fnOf "has_rule_form" "has_rule_form" (defArgs (top 23)) (defBody (top 23)) (defScope (top 23)) .none kV doc pm an cdv ct) ⟨us, []⟩ = pure ((["thing", "many", "sends_to"] : List Str).zip us) := fun _ _ _ _ _ _ us hl => match us, hl with | [_, _, _], _ => rfl
theorem bd_24 : ∀ (kV doc pm : Value) (an : Option Addr) (cdv ct : Value) (us : List Value), us.length = (["thing"] : List Str).length → bindArgs (PySem.W.fnOf "has_cause_form" "has_cause_form" (defArgs (top 24)) (defBody (top 24)) (defScope (top 24)) .none kV doc pm an cdv ct) ⟨us, []⟩ = pure ((["thing"] : List Str).zip us) := fun _ _ _ _ _ _ us hl => match us, hl with | [_], _ => rfl
theorem bd_25 : ∀ (kV doc pm : Value) (an : Option Addr) (cdv ct : Value) (us : List Value), us.length = (["mark", "forced"] : List Str).length → bindArgs (PySem.W.fnOf "has_marking_form" "has_marking_form" (defArgs (top 25)) (defBody (top 25)) (defScope (top 25)) .none kV doc pm an cdv ct) ⟨us, []⟩ = pure ((["mark", "forced"] : List Str).zip us) := fun _ _ _ _ _ _ us hl => match us, hl with | [_, _], _ => rfl
theorem bd_26 : ∀ (kV doc pm : Value) (an : Option Addr) (cdv ct : Value) (us : List Value), us.length = (["thing", "sends_to"] : List Str).length → bindArgs (PySem.W.fnOf "has_letters_form" "has_letters_form" (defArgs (top 26)) (defBody (top 26)) (defScope (top 26)) .none kV doc pm an cdv ct) ⟨us, []⟩ = pure ((["thing", "sends_to"] : List Str).zip us) := fun _ _ _ _ _ _ us hl => match us, hl with | [_, _], _ => rfl
theorem bd_27 : ∀ (kV doc pm : Value) (an : Option Addr) (cdv ct : Value) (us : List Value), us.length = (["thing", "sends_to"] : List Str).length → bindArgs (PySem.W.fnOf "has_letter_form" "has_letter_form" (defArgs (top 27)) (defBody (top 27)) (defScope (top 27)) .none kV doc pm an cdv ct) ⟨us, []⟩ = pure ((["thing", "sends_to"] : List Str).zip us) := fun _ _ _ _ _ _ us hl => match us, hl with | [_, _], _ => rfl
theorem bd_28 : ∀ (kV doc pm : Value) (an : Option Addr) (cdv ct : Value) (us : List Value), us.length = (["thing", "marks", "many"] : List Str).length → bindArgs (PySem.W.fnOf "has_ups_form" "has_ups_form" (defArgs (top 28)) (defBody (top 28)) (defScope (top 28)) .none kV doc pm an cdv ct) ⟨us, []⟩ = pure ((["thing", "marks", "many"] : List Str).zip us) := fun _ _ _ _ _ _ us hl => match us, hl with | [_, _, _], _ => rfl
theorem bd_29 : ∀ (kV doc pm : Value) (an : Option Addr) (cdv ct : Value) (us : List Value), us.length = (["thing", "mark", "many"] : List Str).length → bindArgs (PySem.W.fnOf "has_up_form" "has_up_form" (defArgs (top 29)) (defBody (top 29)) (defScope (top 29)) .none kV doc pm an cdv ct) ⟨us, []⟩ = pure ((["thing", "mark", "many"] : List Str).zip us) := fun _ _ _ _ _ _ us hl => match us, hl with | [_, _, _], _ => rfl
theorem bd_30 : ∀ (kV doc pm : Value) (an : Option Addr) (cdv ct : Value) (us : List Value), us.length = (["states"] : List Str).length → bindArgs (PySem.W.fnOf "rules_in" "rules_in" (defArgs (top 30)) (defBody (top 30)) (defScope (top 30)) .none kV doc pm an cdv ct) ⟨us, []⟩ = pure ((["states"] : List Str).zip us) := fun _ _ _ _ _ _ us hl => match us, hl with | [_], _ => rfl
theorem bd_31 : ∀ (kV doc pm : Value) (an : Option Addr) (cdv ct : Value) (us : List Value), us.length = (["states"] : List Str).length → bindArgs (PySem.W.fnOf "marks_in" "marks_in" (defArgs (top 31)) (defBody (top 31)) (defScope (top 31)) .none kV doc pm an cdv ct) ⟨us, []⟩ = pure ((["states"] : List Str).zip us) := fun _ _ _ _ _ _ us hl => match us, hl with | [_], _ => rfl
theorem bd_33 : ∀ (kV doc pm : Value) (an : Option Addr) (cdv ct : Value) (us : List Value), us.length = (["thing"] : List Str).length → bindArgs (PySem.W.fnOf "is_protocol" "is_protocol" (defArgs (top 33)) (defBody (top 33)) (defScope (top 33)) .none kV doc pm an cdv ct) ⟨us, []⟩ = pure ((["thing"] : List Str).zip us) := fun _ _ _ _ _ _ us hl => match us, hl with | [_], _ => rfl
theorem bk_33 : ∀ (kV doc pm : Value) (an : Option Addr) (cdv ct u : Value), bindArgs (PySem.W.fnOf "is_protocol" "is_protocol" (defArgs (top 33)) (defBody (top 33)) (defScope (top 33)) .none kV doc pm an cdv ct) ⟨[], [(("thing" : Str), u)]⟩ = pure [(("thing" : Str), u)] := fun _ _ _ _ _ _ u => rfl
theorem bd_34 : ∀ (kV doc pm : Value) (an : Option Addr) (cdv ct : Value) (us : List Value), us.length = (["role"] : List Str).length → bindArgs (PySem.W.fnOf "marks_of" "marks_of" (defArgs (top 34)) (defBody (top 34)) (defScope (top 34)) .none kV doc pm an cdv ct) ⟨us, []⟩ = pure ((["role"] : List Str).zip us) := fun _ _ _ _ _ _ us hl => match us, hl with | [_], _ => rfl
theorem bk_34 : ∀ (kV doc pm : Value) (an : Option Addr) (cdv ct u : Value), bindArgs (PySem.W.fnOf "marks_of" "marks_of" (defArgs (top 34)) (defBody (top 34)) (defScope (top 34)) .none kV doc pm an cdv ct) ⟨[], [(("role" : Str), u)]⟩ = pure [(("role" : Str), u)] := fun _ _ _ _ _ _ u => rfl
theorem bd_36 : ∀ (kV doc pm : Value) (an : Option Addr) (cdv ct : Value) (us : List Value), us.length = (["_law_script", "_law_seed"] : List Str).length → bindArgs (PySem.W.fnOf "_law_deck" "_law_deck" (defArgs (top 36)) (defBody (top 36)) (defScope (top 36)) .none kV doc pm an cdv ct) ⟨us, []⟩ = pure ((["_law_script", "_law_seed"] : List Str).zip us) := fun _ _ _ _ _ _ us hl => match us, hl with | [_, _], _ => rfl
theorem bd_37 : ∀ (kV doc pm : Value) (an : Option Addr) (cdv ct : Value) (us : List Value), us.length = (["_law_deck_here", "_law_many"] : List Str).length → bindArgs (PySem.W.fnOf "_law_draw" "_law_draw" (defArgs (top 37)) (defBody (top 37)) (defScope (top 37)) .none kV doc pm an cdv ct) ⟨us, []⟩ = pure ((["_law_deck_here", "_law_many"] : List Str).zip us) := fun _ _ _ _ _ _ us hl => match us, hl with | [_, _], _ => rfl
theorem bd_38 : ∀ (kV doc pm : Value) (an : Option Addr) (cdv ct : Value) (us : List Value), us.length = (["_law_deck_here", "_law_some"] : List Str).length → bindArgs (PySem.W.fnOf "_law_pick" "_law_pick" (defArgs (top 38)) (defBody (top 38)) (defScope (top 38)) .none kV doc pm an cdv ct) ⟨us, []⟩ = pure ((["_law_deck_here", "_law_some"] : List Str).zip us) := fun _ _ _ _ _ _ us hl => match us, hl with | [_, _], _ => rfl
theorem bd_39 : ∀ (kV doc pm : Value) (an : Option Addr) (cdv ct : Value) (us : List Value), us.length = (["_law_thing"] : List Str).length → bindArgs (PySem.W.fnOf "_law_is_integer" "_law_is_integer" (defArgs (top 39)) (defBody (top 39)) (defScope (top 39)) .none kV doc pm an cdv ct) ⟨us, []⟩ = pure ((["_law_thing"] : List Str).zip us) := fun _ _ _ _ _ _ us hl => match us, hl with | [_], _ => rfl
theorem bd_40 : ∀ (kV doc pm : Value) (an : Option Addr) (cdv ct : Value) (us : List Value), us.length = (["_law_deck_here", "_law_deep"] : List Str).length → bindArgs (PySem.W.fnOf "_law_any" "_law_any" (defArgs (top 40)) (defBody (top 40)) (defScope (top 40)) .none kV doc pm an cdv ct) ⟨us, []⟩ = pure ((["_law_deck_here", "_law_deep"] : List Str).zip us) := fun _ _ _ _ _ _ us hl => match us, hl with | [_, _], _ => rfl
theorem bd_41 : ∀ (kV doc pm : Value) (an : Option Addr) (cdv ct : Value) (us : List Value), us.length = (["_law_some", "_law_at", "_law_item"] : List Str).length → bindArgs (PySem.W.fnOf "_law_instead" "_law_instead" (defArgs (top 41)) (defBody (top 41)) (defScope (top 41)) .none kV doc pm an cdv ct) ⟨us, []⟩ = pure ((["_law_some", "_law_at", "_law_item"] : List Str).zip us) := fun _ _ _ _ _ _ us hl => match us, hl with | [_, _, _], _ => rfl
theorem bd_42 : ∀ (kV doc pm : Value) (an : Option Addr) (cdv ct : Value) (us : List Value), us.length = (["_law_deck_here", "_law_thing", "_law_deep"] : List Str).length → bindArgs (PySem.W.fnOf "_law_bent" "_law_bent" (defArgs (top 42)) (defBody (top 42)) (defScope (top 42)) .none kV doc pm an cdv ct) ⟨us, []⟩ = pure ((["_law_deck_here", "_law_thing", "_law_deep"] : List Str).zip us) := fun _ _ _ _ _ _ us hl => match us, hl with | [_, _, _], _ => rfl
theorem bd_43 : ∀ (kV doc pm : Value) (an : Option Addr) (cdv ct : Value) (us : List Value), us.length = (["_law_thing"] : List Str).length → bindArgs (PySem.W.fnOf "_law_is_word" "_law_is_word" (defArgs (top 43)) (defBody (top 43)) (defScope (top 43)) .none kV doc pm an cdv ct) ⟨us, []⟩ = pure ((["_law_thing"] : List Str).zip us) := fun _ _ _ _ _ _ us hl => match us, hl with | [_], _ => rfl
theorem bd_44 : ∀ (kV doc pm : Value) (an : Option Addr) (cdv ct : Value) (us : List Value), us.length = (["_law_thing", "_law_some"] : List Str).length → bindArgs (PySem.W.fnOf "_law_is_text" "_law_is_text" (defArgs (top 44)) (defBody (top 44)) (defScope (top 44)) .none kV doc pm an cdv ct) ⟨us, []⟩ = pure ((["_law_thing", "_law_some"] : List Str).zip us) := fun _ _ _ _ _ _ us hl => match us, hl with | [_, _], _ => rfl
theorem bd_45 : ∀ (kV doc pm : Value) (an : Option Addr) (cdv ct : Value) (us : List Value), us.length = (["_law_thing", "_law_many"] : List Str).length → bindArgs (PySem.W.fnOf "_law_is_place" "_law_is_place" (defArgs (top 45)) (defBody (top 45)) (defScope (top 45)) .none kV doc pm an cdv ct) ⟨us, []⟩ = pure ((["_law_thing", "_law_many"] : List Str).zip us) := fun _ _ _ _ _ _ us hl => match us, hl with | [_, _], _ => rfl
theorem bd_46 : ∀ (kV doc pm : Value) (an : Option Addr) (cdv ct : Value) (us : List Value), us.length = (["_law_thing", "_law_is_leader", "_law_many"] : List Str).length → bindArgs (PySem.W.fnOf "_law_is_rule" "_law_is_rule" (defArgs (top 46)) (defBody (top 46)) (defScope (top 46)) .none kV doc pm an cdv ct) ⟨us, []⟩ = pure ((["_law_thing", "_law_is_leader", "_law_many"] : List Str).zip us) := fun _ _ _ _ _ _ us hl => match us, hl with | [_, _, _], _ => rfl
theorem bd_47 : ∀ (kV doc pm : Value) (an : Option Addr) (cdv ct : Value) (us : List Value), us.length = (["_law_thing", "_law_is_leader"] : List Str).length → bindArgs (PySem.W.fnOf "_law_is_role" "_law_is_role" (defArgs (top 47)) (defBody (top 47)) (defScope (top 47)) .none kV doc pm an cdv ct) ⟨us, []⟩ = pure ((["_law_thing", "_law_is_leader"] : List Str).zip us) := fun _ _ _ _ _ _ us hl => match us, hl with | [_, _], _ => rfl
theorem bd_48 : ∀ (kV doc pm : Value) (an : Option Addr) (cdv ct : Value) (us : List Value), us.length = (["_law_thing"] : List Str).length → bindArgs (PySem.W.fnOf "_law_is_protocol" "_law_is_protocol" (defArgs (top 48)) (defBody (top 48)) (defScope (top 48)) .none kV doc pm an cdv ct) ⟨us, []⟩ = pure ((["_law_thing"] : List Str).zip us) := fun _ _ _ _ _ _ us hl => match us, hl with | [_], _ => rfl
theorem bd_49 : ∀ (kV doc pm : Value) (an : Option Addr) (cdv ct : Value) (us : List Value), us.length = (["_law_role"] : List Str).length → bindArgs (PySem.W.fnOf "_law_marks" "_law_marks" (defArgs (top 49)) (defBody (top 49)) (defScope (top 49)) .none kV doc pm an cdv ct) ⟨us, []⟩ = pure ((["_law_role"] : List Str).zip us) := fun _ _ _ _ _ _ us hl => match us, hl with | [_], _ => rfl
theorem bd_50 : ∀ (kV doc pm : Value) (an : Option Addr) (cdv ct : Value) (us : List Value), us.length = (["_law_cause", "_law_mark", "_law_letters", "_law_to"] : List Str).length → bindArgs (PySem.W.fnOf "_law_rule" "_law_rule" (defArgs (top 50)) (defBody (top 50)) (defScope (top 50)) .none kV doc pm an cdv ct) ⟨us, []⟩ = pure ((["_law_cause", "_law_mark", "_law_letters", "_law_to"] : List Str).zip us) := fun _ _ _ _ _ _ us hl => match us, hl with | [_, _, _, _], _ => rfl
theorem bd_51 : ∀ (kV doc pm : Value) (an : Option Addr) (cdv ct : Value) (us : List Value), us.length = (["_law_word"] : List Str).length → bindArgs (PySem.W.fnOf "_law_known" "_law_known" (defArgs (top 51)) (defBody (top 51)) (defScope (top 51)) .none kV doc pm an cdv ct) ⟨us, []⟩ = pure ((["_law_word"] : List Str).zip us) := fun _ _ _ _ _ _ us hl => match us, hl with | [_], _ => rfl
theorem bd_52 : ∀ (kV doc pm : Value) (an : Option Addr) (cdv ct : Value) (us : List Value), us.length = (["_law_deck_here", "_law_is_leader", "_law_many", "_law_words", "_law_marks_here"] : List Str).length → bindArgs (PySem.W.fnOf "_law_drawn_rule" "_law_drawn_rule" (defArgs (top 52)) (defBody (top 52)) (defScope (top 52)) .none kV doc pm an cdv ct) ⟨us, []⟩ = pure ((["_law_deck_here", "_law_is_leader", "_law_many", "_law_words", "_law_marks_here"] : List Str).zip us) := fun _ _ _ _ _ _ us hl => match us, hl with | [_, _, _, _, _], _ => rfl
theorem bd_53 : ∀ (kV doc pm : Value) (an : Option Addr) (cdv ct : Value) (us : List Value), us.length = (["_law_deck_here", "_law_is_leader", "_law_words", "_law_marks_here"] : List Str).length → bindArgs (PySem.W.fnOf "_law_drawn_role" "_law_drawn_role" (defArgs (top 53)) (defBody (top 53)) (defScope (top 53)) .none kV doc pm an cdv ct) ⟨us, []⟩ = pure ((["_law_deck_here", "_law_is_leader", "_law_words", "_law_marks_here"] : List Str).zip us) := fun _ _ _ _ _ _ us hl => match us, hl with | [_, _, _, _], _ => rfl
theorem bd_54 : ∀ (kV doc pm : Value) (an : Option Addr) (cdv ct : Value) (us : List Value), us.length = (["_law_deck_here", "_law_protocol"] : List Str).length → bindArgs (PySem.W.fnOf "_law_mended_ups" "_law_mended_ups" (defArgs (top 54)) (defBody (top 54)) (defScope (top 54)) .none kV doc pm an cdv ct) ⟨us, []⟩ = pure ((["_law_deck_here", "_law_protocol"] : List Str).zip us) := fun _ _ _ _ _ _ us hl => match us, hl with | [_, _], _ => rfl
theorem bd_55 : ∀ (kV doc pm : Value) (an : Option Addr) (cdv ct : Value) (us : List Value), us.length = (["_law_deck_here", "_law_protocol"] : List Str).length → bindArgs (PySem.W.fnOf "_law_changed" "_law_changed" (defArgs (top 55)) (defBody (top 55)) (defScope (top 55)) .none kV doc pm an cdv ct) ⟨us, []⟩ = pure ((["_law_deck_here", "_law_protocol"] : List Str).zip us) := fun _ _ _ _ _ _ us hl => match us, hl with | [_, _], _ => rfl
theorem bd_56 : ∀ (kV doc pm : Value) (an : Option Addr) (cdv ct : Value) (us : List Value), us.length = (["_law_deck_here"] : List Str).length → bindArgs (PySem.W.fnOf "_law_drawn_protocol" "_law_drawn_protocol" (defArgs (top 56)) (defBody (top 56)) (defScope (top 56)) .none kV doc pm an cdv ct) ⟨us, []⟩ = pure ((["_law_deck_here"] : List Str).zip us) := fun _ _ _ _ _ _ us hl => match us, hl with | [_], _ => rfl
theorem bd_57 : ∀ (kV doc pm : Value) (an : Option Addr) (cdv ct : Value) (us : List Value), us.length = (["_law_deck_here", "_law_thing"] : List Str).length → bindArgs (PySem.W.fnOf "_law_spoilt" "_law_spoilt" (defArgs (top 57)) (defBody (top 57)) (defScope (top 57)) .none kV doc pm an cdv ct) ⟨us, []⟩ = pure ((["_law_deck_here", "_law_thing"] : List Str).zip us) := fun _ _ _ _ _ _ us hl => match us, hl with | [_, _], _ => rfl
theorem bd_58 : ∀ (kV doc pm : Value) (an : Option Addr) (cdv ct : Value) (us : List Value), us.length = (["_law_role", "_law_way"] : List Str).length → bindArgs (PySem.W.fnOf "_law_marks_told" "_law_marks_told" (defArgs (top 58)) (defBody (top 58)) (defScope (top 58)) .none kV doc pm an cdv ct) ⟨us, []⟩ = pure ((["_law_role", "_law_way"] : List Str).zip us) := fun _ _ _ _ _ _ us hl => match us, hl with | [_, _], _ => rfl
theorem bd_59 : ∀ (kV doc pm : Value) (an : Option Addr) (cdv ct : Value) (us : List Value), us.length = (["_law_script"] : List Str).length → bindArgs (PySem.W.fnOf "law" "law" (defArgs (top 59)) (defBody (top 59)) (defScope (top 59)) .none kV doc pm an cdv ct) ⟨us, []⟩ = pure ((["_law_script"] : List Str).zip us) := fun _ _ _ _ _ _ us hl => match us, hl with | [_], _ => rfl
theorem bd_init : ∀ (kV doc pm : Value) (an : Option Addr) (cdv ct : Value) (us : List Value), us.length = (["self", "thing"] : List Str).length → bindArgs (PySem.W.fnOf "__init__" "BadProtocol.__init__" (defArgs initSt) (defBody initSt) (defScope initSt) .none kV doc pm an cdv ct) ⟨us, []⟩ = pure ((["self", "thing"] : List Str).zip us) := fun _ _ _ _ _ _ us hl => match us, hl with | [_, _], _ => rfl
end Al
namespace Al
open PySem PySem.Spec PyProof.Rows L2
/-- all the defs of the text stand -/
structure Tops (K : PySem.W.Frag) (mg : Str → Option Value) : Prop where
  d6 : Def K mg "is_integer" (top 6) ["thing"]
  d7 : Def K mg "is_integer_in" (top 7) ["thing", "low", "high"]
  d8 : Def K mg "is_word" (top 8) ["thing"]
  d9 : Def K mg "is_tuple_of" (top 9) ["thing", "many"]
  d10 : Def K mg "ascending" (top 10) ["items"]
  d20 : Def K mg "has_protocol_form" (top 20) ["thing"]
  d21 : Def K mg "has_role_form" (top 21) ["thing", "sends_to"]
  d22 : Def K mg "has_state_form" (top 22) ["thing", "many", "sends_to"]
  d23 : Def K mg "has_rule_form" (top 23) ["thing", "many", "sends_to"]
  d24 : Def K mg "has_cause_form" (top 24) ["thing"]
  d25 : Def K mg "has_marking_form" (top 25) ["mark", "forced"]
  d26 : Def K mg "has_letters_form" (top 26) ["thing", "sends_to"]
  d27 : Def K mg "has_letter_form" (top 27) ["thing", "sends_to"]
  d28 : Def K mg "has_ups_form" (top 28) ["thing", "marks", "many"]
  d29 : Def K mg "has_up_form" (top 29) ["thing", "mark", "many"]
  d30 : Def K mg "rules_in" (top 30) ["states"]
  d31 : Def K mg "marks_in" (top 31) ["states"]
  d33 : Def1 K mg "is_protocol" (top 33) "thing"
  d34 : Def1 K mg "marks_of" (top 34) "role"
  d36 : Def K mg "_law_deck" (top 36) ["_law_script", "_law_seed"]
  d37 : Def K mg "_law_draw" (top 37) ["_law_deck_here", "_law_many"]
  d38 : Def K mg "_law_pick" (top 38) ["_law_deck_here", "_law_some"]
  d39 : Def K mg "_law_is_integer" (top 39) ["_law_thing"]
  d40 : Def K mg "_law_any" (top 40) ["_law_deck_here", "_law_deep"]
  d41 : Def K mg "_law_instead" (top 41) ["_law_some", "_law_at", "_law_item"]
  d42 : Def K mg "_law_bent" (top 42) ["_law_deck_here", "_law_thing", "_law_deep"]
  d43 : Def K mg "_law_is_word" (top 43) ["_law_thing"]
  d44 : Def K mg "_law_is_text" (top 44) ["_law_thing", "_law_some"]
  d45 : Def K mg "_law_is_place" (top 45) ["_law_thing", "_law_many"]
  d46 : Def K mg "_law_is_rule" (top 46) ["_law_thing", "_law_is_leader", "_law_many"]
  d47 : Def K mg "_law_is_role" (top 47) ["_law_thing", "_law_is_leader"]
  d48 : Def K mg "_law_is_protocol" (top 48) ["_law_thing"]
  d49 : Def K mg "_law_marks" (top 49) ["_law_role"]
  d50 : Def K mg "_law_rule" (top 50) ["_law_cause", "_law_mark", "_law_letters", "_law_to"]
  d51 : Def K mg "_law_known" (top 51) ["_law_word"]
  d52 : Def K mg "_law_drawn_rule" (top 52) ["_law_deck_here", "_law_is_leader", "_law_many", "_law_words", "_law_marks_here"]
  d53 : Def K mg "_law_drawn_role" (top 53) ["_law_deck_here", "_law_is_leader", "_law_words", "_law_marks_here"]
  d54 : Def K mg "_law_mended_ups" (top 54) ["_law_deck_here", "_law_protocol"]
  d55 : Def K mg "_law_changed" (top 55) ["_law_deck_here", "_law_protocol"]
  d56 : Def K mg "_law_drawn_protocol" (top 56) ["_law_deck_here"]
  d57 : Def K mg "_law_spoilt" (top 57) ["_law_deck_here", "_law_thing"]
  d58 : Def K mg "_law_marks_told" (top 58) ["_law_role", "_law_way"]
  B : Bl mg
  C1 : Cst K mg
  C2 : Cst2 K mg
  bad : ∃ C S, Bad K mg C S
  sys : (K.lookup sysModules).isSome = true
  law : ∃ f fd, Fun K "law" "law" (top 59) f fd ∧ mg "law" = some (.ref f) ∧ ∀ (s : Shared) (u : Value), BindsTo s fd ⟨[u], []⟩ [("_law_script", u)]
theorem law_runs {P : Program} {w : World} {K : PySem.W.Frag} {mg : Str → Option Value} {base : Heap} {fa a : Addr} {s : Shared} {H : Hp} {ns : List Int} (T : Tops K mg) (hfa : mg "law" = some (.ref fa)) (e0 : Env0 P w K mg base callerA [] s H) (hS : SqL K H a (ns.map V.int)) :
    codeAny (model P w) callerA (.call (.ref fa) ⟨[.ref a], []⟩) (CR CX0 [] P w H s (fun v _ => v = .bl true) fun _ _ _ => False) s := by
  obtain ⟨f, fd, F, hf, hb⟩ := T.law
  have e : fa = f := by
    rw [hf] at hfa
    injection hfa with e
    injection e with e
    exact e.symm
  subst e
  obtain ⟨C, S, bad⟩ := T.bad
  have B := T.B
  have c_is_integer : Cal P w K mg base 1 "is_integer" _ := ok_is_integer T.d6 B
  have c_is_integer_in := ok_is_integer_in T.d7 c_is_integer
  have c_is_word : Cal P w K mg base 1 "is_word" _ := ok_is_word T.d8 B T.C1
  have c_is_tuple_of : Cal P w K mg base 1 "is_tuple_of" _ := ok_is_tuple_of T.d9 B
  have c_ascending : Cal P w K mg base 1 "ascending" _ := ok_ascending T.d10 B
  have c_cause := ok_cause T.d24 T.C2 c_is_tuple_of c_is_word
  have c_marking := ok_marking T.d25 B c_is_word
  have c_letter := ok_letter T.d27 c_is_tuple_of c_is_word
  have c_letters := ok_letters T.d26 B T.C2 c_letter
  have c_rule := ok_rule T.d23 c_is_tuple_of c_cause c_marking c_letters c_is_integer_in
  have c_state := ok_state T.d22 B T.C2 c_is_tuple_of c_rule
  have c_up := ok_up T.d29 c_is_tuple_of c_is_integer_in
  have c_ups := ok_ups T.d28 B c_is_tuple_of c_up
  have c_rules : Cal P w K mg base 1 "rules_in" _ := ok_rules T.d30
  have c_marks := ok_marks T.d31 c_rules c_ascending
  have c_role := ok_role T.d21 B T.C2 c_is_tuple_of c_state c_ups c_marks
  have c_prot := ok_prot T.d20 T.C2 c_is_tuple_of c_role
  have c_isprot := ok_isprot1 T.d33 c_prot
  have c_mo := ok_mo T.d34 T.C2 bad c_role c_marks
  have l_deck : Cal P w K mg base 1 "_law_deck" _ := ok_deck T.d36 B
  have l_draw : Cal P w K mg base 1 "_law_draw" _ := ok_draw T.d37 B
  have l_pick := ok_pick T.d38 B l_draw
  have l_int : Cal P w K mg base 1 "_law_is_integer" _ := ok_l_int T.d39 B
  have l_any := ok_any T.d40 B l_draw l_pick
  have l_ins : Cal P w K mg base 1 "_law_instead" _ := ok_instead T.d41
  have l_bent := ok_bent T.d42 B l_draw l_pick l_int (l_any 2) l_ins
  have l_word : Cal P w K mg base 1 "_law_is_word" _ := ok_l_word T.d43 B
  have l_text : Cal P w K mg base 1 "_law_is_text" _ := ok_l_text T.d44 B
  have l_place := ok_l_place T.d45 l_int
  have l_rule := ok_l_rule T.d46 B l_text l_word l_place
  have l_marks : Cal P w K mg base 1 "_law_marks" _ := ok_l_marks T.d49 B
  have l_role := ok_l_role T.d47 B l_text l_rule l_place l_marks
  have l_prot := ok_l_prot T.d48 B l_role
  have l_mkrule : Cal P w K mg base 1 "_law_rule" _ := ok_rule_l T.d50 B
  have l_known := ok_known T.d51 l_mkrule
  have l_dr := ok_dr T.d52 B l_draw l_pick
  have l_do := ok_do T.d53 B l_draw l_pick l_dr l_marks
  have l_mend := ok_mend T.d54 B l_draw l_marks
  have l_chg := ok_chg T.d55 B l_draw l_pick l_ins l_mend
  have l_dp := ok_dp T.d56 B l_draw l_pick l_do l_known l_chg
  have l_sp := ok_spoilt T.d57 B l_draw l_pick l_int (l_bent 1) l_ins 20
  have l_told := ok_told T.d58 B bad c_mo
  exact ok_law F hb B T.sys e0 hS l_deck l_dp l_pick l_sp l_draw (l_any 3) l_prot c_isprot l_role l_marks l_told
/-- the end of a head: the law's one call -/
theorem walk_told {l : PySem.W.OpenLaw} {n : Nat} {q : Program} {loose : List Str} {XP : (Str → Option Value) → Heap → Prop} {YP : World → Heap → Prop} {d : DefRec} {K : Params → PySem.W.Frag}
    (hn : l.most = some n) (hn2 : n ≤ sizeLine) (hdf : d.params.defaults = []) (hY : ∀ (w : World) (h : Heap), YP w h → (K w.params).In h) (hd : d.name = "law")
    (T : ∀ (w : World) (mg : Str → Option Value) (h : Heap), (K w.params).In h → h.Ns mainGlobals mg → Tops (K w.params) mg) :
    PySem.W.WalkO q loose XP YP l.row.toRowW d [] (fun f vs => PySem.call f vs) := by
  apply Att.attach_call hn hdf
  intro w s₀ s₁ mg mb fa o pm cd doc a vs ns G Y ho hdo hcd hmg hobj hints hlen hg
  have KX := hY w _ Y
  have tops := T w mg _ KX G.T.g
  rw [hd] at hmg
  exact law_told KX G.T.g G.T.b G.T.builtins G.T.nolimit hg hobj hints (Nat.le_trans hlen hn2) fun base H _ _ e0 _ hS => law_runs tops hmg e0 hS
end Al
namespace Al
open PySem PySem.Spec PyProof.Rows L2
/-! ### the head by facts: the part of the heap that the module's names reach, and sys.modules -/
abbrev KG (n : Nat) (g : Addr → Option Obj) : PySem.W.Frag := He.frG g (sysModules :: He.asD g n)
abbrev AlA : Type := He.AlD × Bool
def obsA (n : Nat) (fa : List He.Fa) (fn : List He.DefD) (ex : PySem.W.Frag → Bool) (g : Addr → Option Obj) : AlA := (He.obsD fa fn (KG n g), ex (KG n g))
structure SaysA (fa : List He.Fa) (fn : List He.DefD) (ex : PySem.W.Frag → Bool) (K : PySem.W.Frag) : Prop where
  d : He.SaysD fa fn K
  e : ex K = true
def hookA (n : Nat) (fa : List He.Fa) (fn : List He.DefD) (ex : PySem.W.Frag → Bool) : PySem.W.Hook where
  α := AlA
  obs := fun s => obsA n fa fn ex s.heap.get?
  val := fun _ => (He.valD fn, true)
  says := fun _ h => ∃ K : PySem.W.Frag, K.In h ∧ SaysA fa fn ex K
  of := fun _ _ e => ⟨_, He.frG_in, ⟨congrArg (fun z : AlA => z.1) e, congrArg (fun z : AlA => z.2) e⟩⟩
  keeps := fun _ _ _ ⟨K, hK, c⟩ k => ⟨K, PySem.W.Frag.In.keeps hK k, c⟩
theorem obsA_eq {n : Nat} {fa : List He.Fa} {fn : List He.DefD} {ex : PySem.W.Frag → Bool} {g : Addr → Option Obj} {s : Shared} (h : ∀ a, g a = s.heap.get? a) : obsA n fa fn ex g = (hookA n fa fn ex).obs s := by
  have e : g = s.heap.get? := funext h
  rw [e] <;> rfl
/-! ### facts -/
theorem FunD.fun {K : PySem.W.Frag} {x q : Str} {st : Stmt} {f : Addr} {fd : FuncData} (F : FunD K x q (defArgs st) (defBody st) (defScope st) [] [] f fd) : Fun K x q st f fd := by
  obtain ⟨oc, od, dV, kV, doc, pm, an, cdv, ct, osl, e, lk, hcd, hd, _⟩ := F.ex
  have : dV = .none := by
    rcases hd with ⟨_, h⟩ | ⟨h, _⟩
    · exact h
    · exact absurd rfl h
  subst this
  exact ⟨⟨oc, od, kV, doc, pm, an, cdv, ct, osl, e, lk, hcd⟩, F.kp⟩
def mkD (x : Str) (st : Stmt) : He.DefD := ⟨(x, none), x, x, defArgs st, defBody st, defScope st, [], []⟩
def mkM (C m q : Str) (st : Stmt) : He.DefD := ⟨(C, some m), m, q, defArgs st, defBody st, defScope st, [], []⟩
section
variable {K : PySem.W.Frag} {h : Heap} {mg : Str → Option Value} {fa : List He.Fa} {fn : List He.DefD} {ex : PySem.W.Frag → Bool}
theorem he_fact (c : SaysA fa fn ex K) (i : Nat) {f : He.Fa} (h : fa[i]? = some f := by rfl) : f.ok K = true := c.d.fact i h
theorem he_fun (c : SaysA fa fn ex K) (i : Nat) {x : Str} {st : Stmt} (e : fn[i]? = some (mkD x st)) : ∃ fd, Fun K x x st (He.ga K x) fd := by
  obtain ⟨fd, F⟩ := c.d.def_ i e
  exact ⟨fd, FunD.fun F⟩
theorem he_def (X : K.In h) (G : h.Ns mainGlobals mg) (c : SaysA fa fn ex K) (i j : Nat) {x : Str} {st : Stmt} {ps : List Str} (e : fn[i]? = some (mkD x st)) (g : fa[j]? = some (.glo x))
    (hb : ∀ (kV doc pm : Value) (an : Option Addr) (cdv ct : Value) (us : List Value), us.length = ps.length → bindArgs (PySem.W.fnOf x x (defArgs st) (defBody st) (defScope st) .none kV doc pm an cdv ct) ⟨us, []⟩ = pure (ps.zip us)) : Def K mg x st ps := by
  obtain ⟨fd, F⟩ := he_fun c i e
  exact ⟨_, fd, F, He.glo_ok X G (he_fact c j g), F.binds hb⟩
theorem Fun.bindsTo {x q : Str} {st : Stmt} {f : Addr} {fd : FuncData} (F : Fun K x q st f fd) {args : Args} {ps : List (Str × Value)} (hb : ∀ (kV doc pm : Value) (an : Option Addr) (cdv ct : Value), bindArgs (PySem.W.fnOf x q (defArgs st) (defBody st) (defScope st) .none kV doc pm an cdv ct) args = pure ps) (s : Shared) : BindsTo s fd args ps := by
  obtain ⟨oc, od, kV, doc, pm, an, cdv, ct, osl, rfl, lk, hcd⟩ := F.ex
  exact .of_eq (hb kV doc pm an cdv ct)
theorem he_def1 (X : K.In h) (G : h.Ns mainGlobals mg) (c : SaysA fa fn ex K) (i j : Nat) {x p : Str} {st : Stmt} (e : fn[i]? = some (mkD x st)) (g : fa[j]? = some (.glo x))
    (hb : ∀ (kV doc pm : Value) (an : Option Addr) (cdv ct : Value) (us : List Value), us.length = [p].length → bindArgs (PySem.W.fnOf x x (defArgs st) (defBody st) (defScope st) .none kV doc pm an cdv ct) ⟨us, []⟩ = pure ([p].zip us))
    (hk : ∀ (kV doc pm : Value) (an : Option Addr) (cdv ct u : Value), bindArgs (PySem.W.fnOf x x (defArgs st) (defBody st) (defScope st) .none kV doc pm an cdv ct) ⟨[], [(p, u)]⟩ = pure [(p, u)]) : Def1 K mg x st p := by
  obtain ⟨fd, F⟩ := he_fun c i e
  exact ⟨_, fd, F, He.glo_ok X G (he_fact c j g), F.binds hb, fun s u _ => Fun.bindsTo F (fun kV doc pm an cdv ct => hk kV doc pm an cdv ct u) s⟩
theorem he_int (X : K.In h) (G : h.Ns mainGlobals mg) (c : SaysA fa fn ex K) (j : Nat) {x : Str} {i : Int} (g : fa[j]? = some (.int x i)) : ∃ u, mg x = some u ∧ RelV (.int i) u := by
  obtain ⟨t, e⟩ := He.int_ok X G (he_fact c j g)
  exact ⟨_, e, t, rfl⟩
theorem he_str (X : K.In h) (G : h.Ns mainGlobals mg) (c : SaysA fa fn ex K) (j : Nat) {x z : Str} (g : fa[j]? = some (.str x z)) : ∃ u, mg x = some u ∧ RelV (.str z) u := by
  obtain ⟨t, e⟩ := He.str_ok X G (he_fact c j g)
  exact ⟨_, e, t, rfl⟩
/-- a list of Bools, all true -/
theorem exs {l : List Bool} (h : l.all id = true) (i : Nat) {b : Bool} (e : l[i]? = some b) : b = true := List.all_eq_true.mp h b (List.mem_of_getElem? e)
def sysB (K : PySem.W.Frag) : Bool := (K.lookup sysModules).isSome
/-- an error class over ShelfError -/
def clsB (K : PySem.W.Frag) (C S : Addr) : Bool := match K.lookup C with
  | some ⟨.type t, _, .cls cd, sl⟩ => decide (t = "type") && (decide (cd.mro = .ref C :: .ref S :: PySem.ESX.exTail) && (cd.hasDict && (!cd.hasDel && (match sl.toList with
    | [_, _, _, _, some (.builtin n), _] => decide (n = "Exception.__new__")
    | _ => false))))
  | _ => false
theorem clsB_ok {C S : Addr} (h : clsB K C S = true) : ∃ nm q N bs sn sub ab col dd k0 k1 k2 k3 k5, K.lookup C = some (excClassObj nm q C N bs (.ref S :: PySem.ESX.exTail) true sn sub ab col dd k0 k1 k2 k3 k5 "Exception.__new__") := by
  unfold clsB at h
  split at h
  · rename_i t dd cd sl ho
    simp only [Bool.and_eq_true, decide_eq_true_eq, Bool.not_eq_true'] at h
    obtain ⟨rfl, hm, hh, hdel, hs⟩ := h
    obtain ⟨nm, bs, mro, ns, qn, hd, sn, sub, ab, col, del⟩ := cd
    dsimp only at hm hh hdel
    subst hm hh hdel
    split at hs
    · rename_i k0 k1 k2 k3 n k5 e
      have e2 : n = "Exception.__new__" := of_decide_eq_true hs
      subst e2
      have hsl : sl = #[k0, k1, k2, k3, some (.builtin "Exception.__new__"), k5] := by
        obtain ⟨l⟩ := sl
        simp only at e
        rw [e]
      subst hsl
      exact ⟨nm, qn, ns, bs, sn, sub, ab, col, dd, k0, k1, k2, k3, k5, ho⟩
    · cases hs
  · cases h
/-- all that is asked of an error class with an __init__ -/
def badB (K : PySem.W.Frag) (C S : Addr) (f : Str) : Bool := [clsB K C S, decide (PySem.W.findIn K (.ref C) "__setattr__" = some (some (.builtin "object.__setattr__"))), decide (PySem.W.subIn K (.ref C) (.type "BaseException") = some true), decide (PySem.W.typeIn K (.ref C) = some (.type "type")), PySem.W.keepIn K (.ref C),
  decide (PySem.W.findIn K (.ref C) "__getattribute__" = some (some (.builtin "BaseException.__getattribute__"))), decide (PySem.W.findIn K (.ref C) "__getattr__" = some none), PySem.W.hasDictIn K C, decide (PySem.W.findIn K (.ref C) "__class__" = some (some (.builtin "object.__class__"))), decide (PySem.W.specialIn K (.builtin "object.__class__") "__get__" = some (some (.builtin "getset_descriptor.__get__"))),
  decide (PySem.W.takesIn K (.builtin "object.__class__") = some true), decide (PySem.W.mroIn K C (.type "object") = some true), PySem.W.isClsIn K C, decide (PySem.W.findIn K (.ref C) f = some none), decide (PySem.W.exmOne K (.ref C) (.ref C) = some true), decide (PySem.W.kitOne K (.ref C) (.ref S) = some true),
  decide (PySem.W.findIn K (.ref C) "__init__" = some (some (.ref (He.ma K C "__init__")))), decide (PySem.W.typeIn K (.ref (He.ma K C "__init__")) = some (.type "function"))].all id
theorem bad_he {C S : Addr} (h : badB K C S "thing" = true) (mC : mg "BadProtocol" = some (.ref C)) (mS : mg "ShelfError" = some (.ref S)) {fd : FuncData} (F : Fun K "__init__" "BadProtocol.__init__" initSt (He.ma K C "__init__") fd) : Bad K mg C S := by
  have g := fun (i : Nat) (b : Bool) => exs (b := b) h i
  exact { bad := ⟨clsB_ok (g 0 _ rfl), of_decide_eq_true (g 1 _ rfl), of_decide_eq_true (g 2 _ rfl), of_decide_eq_true (g 3 _ rfl), g 4 _ rfl⟩, err := ⟨of_decide_eq_true (g 5 _ rfl), of_decide_eq_true (g 6 _ rfl), of_decide_eq_true (g 2 _ rfl), g 7 _ rfl, of_decide_eq_true (g 8 _ rfl), of_decide_eq_true (g 9 _ rfl), of_decide_eq_true (g 10 _ rfl), of_decide_eq_true (g 11 _ rfl), g 12 _ rfl⟩, xf := ⟨of_decide_eq_true (g 5 _ rfl), of_decide_eq_true (g 6 _ rfl), of_decide_eq_true (g 2 _ rfl), g 7 _ rfl⟩, nt := of_decide_eq_true (g 13 _ rfl), mC := mC, mS := mS, exm := of_decide_eq_true (g 14 _ rfl), kit := of_decide_eq_true (g 15 _ rfl), init := ⟨_, fd, F, F.binds bd_init, of_decide_eq_true (g 16 _ rfl), of_decide_eq_true (g 17 _ rfl)⟩ }
end
end Al
namespace Al
open PySem PySem.Spec PyProof.Rows L2
def fa : List He.Fa := [.glo "is_integer", .glo "is_integer_in", .glo "is_word", .glo "is_tuple_of", .glo "ascending", .glo "has_protocol_form", .glo "has_role_form", .glo "has_state_form", .glo "has_rule_form", .glo "has_cause_form", .glo "has_marking_form", .glo "has_letters_form", .glo "has_letter_form", .glo "has_ups_form", .glo "has_up_form", .glo "rules_in", .glo "marks_in", .glo "is_protocol", .glo "marks_of", .glo "_law_deck", .glo "_law_draw", .glo "_law_pick", .glo "_law_is_integer", .glo "_law_any", .glo "_law_instead", .glo "_law_bent", .glo "_law_is_word", .glo "_law_is_text", .glo "_law_is_place", .glo "_law_is_rule", .glo "_law_is_role", .glo "_law_is_protocol", .glo "_law_marks", .glo "_law_rule", .glo "_law_known", .glo "_law_drawn_rule", .glo "_law_drawn_role", .glo "_law_mended_ups", .glo "_law_changed", .glo "_law_drawn_protocol", .glo "_law_spoilt", .glo "_law_marks_told", .glo "law", .glo "BadProtocol", .glo "ShelfError", .free "isinstance", .free "tuple", .free "int", .free "bool", .free "str", .free "list", .free "len", .free "all", .free "sorted", .free "set", .free "zip", .free "max", .free "range", .free "repr", .free "dict", .glo "ENDS", .glo "PLAIN_CAUSES", .glo "KIND_CAUSES", .glo "LEADER_SENDS_TO", .glo "MEMBER_SENDS_TO", .str "ALPHABET" abc, .int "LONGEST_WORD" 10, .int "MOST_STATES" 12, .int "MOST_RULES" 6, .int "MOST_LETTERS" 4]
def fn : List He.DefD := [mkD "is_integer" (top 6), mkD "is_integer_in" (top 7), mkD "is_word" (top 8), mkD "is_tuple_of" (top 9), mkD "ascending" (top 10), mkD "has_protocol_form" (top 20), mkD "has_role_form" (top 21), mkD "has_state_form" (top 22), mkD "has_rule_form" (top 23), mkD "has_cause_form" (top 24), mkD "has_marking_form" (top 25), mkD "has_letters_form" (top 26), mkD "has_letter_form" (top 27), mkD "has_ups_form" (top 28), mkD "has_up_form" (top 29), mkD "rules_in" (top 30), mkD "marks_in" (top 31), mkD "is_protocol" (top 33), mkD "marks_of" (top 34), mkD "_law_deck" (top 36), mkD "_law_draw" (top 37), mkD "_law_pick" (top 38), mkD "_law_is_integer" (top 39), mkD "_law_any" (top 40), mkD "_law_instead" (top 41), mkD "_law_bent" (top 42), mkD "_law_is_word" (top 43), mkD "_law_is_text" (top 44), mkD "_law_is_place" (top 45), mkD "_law_is_rule" (top 46), mkD "_law_is_role" (top 47), mkD "_law_is_protocol" (top 48), mkD "_law_marks" (top 49), mkD "_law_rule" (top 50), mkD "_law_known" (top 51), mkD "_law_drawn_rule" (top 52), mkD "_law_drawn_role" (top 53), mkD "_law_mended_ups" (top 54), mkD "_law_changed" (top 55), mkD "_law_drawn_protocol" (top 56), mkD "_law_spoilt" (top 57), mkD "_law_marks_told" (top 58), mkD "law" (top 59), mkM "BadProtocol" "__init__" "BadProtocol.__init__" initSt]
def exq (K : PySem.W.Frag) : List Bool := [sysB K, badB K (He.ga K "BadProtocol") (He.ga K "ShelfError") "thing", He.tupB K "ENDS" (ends.map He.Dv.str), He.tupB K "PLAIN_CAUSES" (plain.map He.Dv.str), He.tupB K "KIND_CAUSES" (kinds.map He.Dv.str), He.tupB K "LEADER_SENDS_TO" (toL.map He.Dv.str), He.tupB K "MEMBER_SENDS_TO" (toM.map He.Dv.str)]
def ex (K : PySem.W.Frag) : Bool := (exq K).all id
abbrev R : PySem.W.OpenRow := PySem.W.OpenLaw.row PySem.Challenge.rw_allshelves_k01_protocols_of_any_values
def ob (s : PySem.W.SharedT) : AlA := obsA 6 fa fn ex (HandSHeadRun.getT s)
theorem ob_eq (s : PySem.W.SharedT) : ob s = (hookA 6 fa fn ex).obs s.abs := obsA_eq (HandSHeadRun.getT_eq s)
def loose : List PySem.Str := (["__name__", "ShelfError", "BadProtocol", "ALPHABET", "LONGEST_WORD", "is_integer", "is_integer_in", "is_word", "is_tuple_of", "ascending", "ENDS", "PLAIN_CAUSES", "KIND_CAUSES", "LEADER_SENDS_TO", "MEMBER_SENDS_TO", "MOST_STATES", "MOST_RULES", "MOST_LETTERS", "has_protocol_form", "has_role_form", "has_state_form", "has_rule_form", "has_cause_form", "has_marking_form", "has_letters_form", "has_letter_form", "has_ups_form", "has_up_form", "rules_in", "marks_in"] : List PySem.Str) ++ (["is_protocol", "marks_of", "_law_deck", "_law_draw", "_law_pick", "_law_is_integer", "_law_any", "_law_instead", "_law_bent", "_law_is_word", "_law_is_text", "_law_is_place", "_law_is_rule", "_law_is_role", "_law_is_protocol", "_law_marks", "_law_rule", "_law_known", "_law_drawn_rule", "_law_drawn_role", "_law_mended_ups", "_law_changed", "_law_drawn_protocol", "_law_spoilt", "_law_marks_told"] : List PySem.Str)
set_option maxHeartbeats 0 in
theorem run (w : World) : HandSHeadRun.RunEq R (PySem.W.view R.prog [59]) (hookA 6 fa fn ex) ob 4000 loose w := by
  intro os
  kernel_rfl
theorem tupc {K : PySem.W.Frag} {h : Heap} {mg : Str → Option Value} (X : K.In h) (G : h.Ns mainGlobals mg) {x : Str} {zs : List Str} (g : (He.Fa.glo x).ok K = true) (t : He.tupB K x (zs.map He.Dv.str) = true) : ∃ a, mg x = some (.ref a) ∧ ∀ H, SqT K H a (zs.map V.str) :=
  ⟨_, He.glo_ok X G g, fun H => by
    have e := He.tupB_ok t H
    rw [List.map_map] at e
    exact e⟩
theorem tops {K : PySem.W.Frag} {h : Heap} {mg : Str → Option Value} (X : K.In h) (G : h.Ns mainGlobals mg) (c : SaysA fa fn ex K) : Tops K mg := by
  have g := fun (i : Nat) (b : Bool) => exs (b := b) (l := exq K) c.e i
  obtain ⟨fdI, FI⟩ := c.d.def_ 43 (d := mkM "BadProtocol" "__init__" "BadProtocol.__init__" initSt) rfl
  obtain ⟨fdL, FL⟩ := he_fun c 42 (x := "law") (st := top 59) rfl
  exact { d6 := he_def X G c 0 0 rfl rfl bd_6, d7 := he_def X G c 1 1 rfl rfl bd_7, d8 := he_def X G c 2 2 rfl rfl bd_8, d9 := he_def X G c 3 3 rfl rfl bd_9, d10 := he_def X G c 4 4 rfl rfl bd_10, d20 := he_def X G c 5 5 rfl rfl bd_20, d21 := he_def X G c 6 6 rfl rfl bd_21, d22 := he_def X G c 7 7 rfl rfl bd_22, d23 := he_def X G c 8 8 rfl rfl bd_23, d24 := he_def X G c 9 9 rfl rfl bd_24, d25 := he_def X G c 10 10 rfl rfl bd_25, d26 := he_def X G c 11 11 rfl rfl bd_26, d27 := he_def X G c 12 12 rfl rfl bd_27, d28 := he_def X G c 13 13 rfl rfl bd_28, d29 := he_def X G c 14 14 rfl rfl bd_29, d30 := he_def X G c 15 15 rfl rfl bd_30, d31 := he_def X G c 16 16 rfl rfl bd_31, d33 := he_def1 X G c 17 17 rfl rfl bd_33 bk_33, d34 := he_def1 X G c 18 18 rfl rfl bd_34 bk_34, d36 := he_def X G c 19 19 rfl rfl bd_36, d37 := he_def X G c 20 20 rfl rfl bd_37, d38 := he_def X G c 21 21 rfl rfl bd_38, d39 := he_def X G c 22 22 rfl rfl bd_39, d40 := he_def X G c 23 23 rfl rfl bd_40, d41 := he_def X G c 24 24 rfl rfl bd_41, d42 := he_def X G c 25 25 rfl rfl bd_42, d43 := he_def X G c 26 26 rfl rfl bd_43, d44 := he_def X G c 27 27 rfl rfl bd_44, d45 := he_def X G c 28 28 rfl rfl bd_45, d46 := he_def X G c 29 29 rfl rfl bd_46, d47 := he_def X G c 30 30 rfl rfl bd_47, d48 := he_def X G c 31 31 rfl rfl bd_48, d49 := he_def X G c 32 32 rfl rfl bd_49, d50 := he_def X G c 33 33 rfl rfl bd_50, d51 := he_def X G c 34 34 rfl rfl bd_51, d52 := he_def X G c 35 35 rfl rfl bd_52, d53 := he_def X G c 36 36 rfl rfl bd_53, d54 := he_def X G c 37 37 rfl rfl bd_54, d55 := he_def X G c 38 38 rfl rfl bd_55, d56 := he_def X G c 39 39 rfl rfl bd_56, d57 := he_def X G c 40 40 rfl rfl bd_57, d58 := he_def X G c 41 41 rfl rfl bd_58, B := ⟨He.free_ok X G (he_fact c 45), He.free_ok X G (he_fact c 46), He.free_ok X G (he_fact c 47), He.free_ok X G (he_fact c 48), He.free_ok X G (he_fact c 49), He.free_ok X G (he_fact c 50), He.free_ok X G (he_fact c 51), He.free_ok X G (he_fact c 52), He.free_ok X G (he_fact c 53), He.free_ok X G (he_fact c 54), He.free_ok X G (he_fact c 55), He.free_ok X G (he_fact c 56), He.free_ok X G (he_fact c 57), He.free_ok X G (he_fact c 58), He.free_ok X G (he_fact c 59)⟩, C1 := ⟨he_str X G c 65 rfl, he_int X G c 66 rfl⟩, C2 := ⟨tupc X G (he_fact c 60) (g 2 _ rfl), tupc X G (he_fact c 61) (g 3 _ rfl), tupc X G (he_fact c 62) (g 4 _ rfl), tupc X G (he_fact c 63) (g 5 _ rfl), tupc X G (he_fact c 64) (g 6 _ rfl), he_int X G c 67 rfl, he_int X G c 68 rfl, he_int X G c 69 rfl⟩, bad := ⟨_, _, bad_he (g 1 _ rfl) (He.glo_ok X G (he_fact c 43)) (He.glo_ok X G (he_fact c 44)) (FunD.fun FI)⟩, sys := g 0 _ rfl, law := ⟨_, fdL, FL, He.glo_ok X G (he_fact c 42), fun s u => Fun.bindsTo FL (fun kV doc pm an cdv ct => bd_59 kV doc pm an cdv ct [u] rfl) s⟩ }
/-- the end of a head: the law's one call -/
theorem walk_toldE {l : PySem.W.OpenLaw} {n : Nat} {q : Program} {loose : List Str} {XP : (Str → Option Value) → Heap → Prop} {YP : World → Heap → Prop} {d : DefRec}
    (hn : l.most = some n) (hn2 : n ≤ sizeLine) (hdf : d.params.defaults = []) (hd : d.name = "law")
    (T : ∀ (w : World) (mg : Str → Option Value) (h : Heap), YP w h → h.Ns mainGlobals mg → ∃ K : PySem.W.Frag, K.In h ∧ Tops K mg) :
    PySem.W.WalkO q loose XP YP l.row.toRowW d [] (fun f vs => PySem.call f vs) := by
  apply Att.attach_call hn hdf
  intro w s₀ s₁ mg mb fa o pm cd doc a vs ns G Y ho hdo hcd hmg hobj hints hlen hg
  obtain ⟨K, KX, tops⟩ := T w mg _ Y G.T.g
  rw [hd] at hmg
  exact law_told KX G.T.g G.T.b G.T.builtins G.T.nolimit hg hobj hints (Nat.le_trans hlen hn2) fun base H _ _ e0 _ hS => law_runs tops hmg e0 hS
end Al
open PySem PySem.W PySem.Calls PyProof.Rows
set_option maxHeartbeats 0 in
theorem PySem.Challenge.cw_allshelves_k01_protocols_of_any_values_holds : PySem.Challenge.rw_allshelves_k01_protocols_of_any_values.Holds := by
  w_on; o_law
  refine HandSHeadRun.head_any (r := OpenLaw.row PySem.Challenge.rw_allshelves_k01_protocols_of_any_values) (q := view (OpenLaw.row PySem.Challenge.rw_allshelves_k01_protocols_of_any_values).prog [59]) (H := Al.hookA 6 Al.fa Al.fn Al.ex) (ob := Al.ob) (M := 4000) (loose := Al.loose) (d := HandSHeadRun.topDef (OpenLaw.row PySem.Challenge.rw_allshelves_k01_protocols_of_any_values).prog 59) (kwd := []) Al.ob_eq
    (by kernel_rfl) (fun s => by kernel_rfl) Al.run (by kernel_rfl) (by kernel_rfl) (by kernel_rfl) (by rfl) (by first | assumption | decide +kernel) (by decide +kernel) ⟨rfl, rfl, rfl, rfl, rfl, by decide +kernel⟩ ?hw ?hc
  case hw => w_witness2
  case hc =>
    refine Al.walk_toldE (l := PySem.Challenge.rw_allshelves_k01_protocols_of_any_values) rfl (by decide) (by kernel_rfl) (by kernel_rfl) ?_
    intro w mg h Y G
    obtain ⟨K, KX, c⟩ := Y
    exact ⟨K, KX, Al.tops KX G c⟩
