import PyProof.Rows.All
import HandS.ForMost
import HandS.ForExc
import HandS.IsInst
import HandS.Wide
import HandS.TupAny
import HandS.WideBits
import HandS.RaiseMore
import HandS.Style
import HandS.Ends
import PySem.Challenge.RW_holdgates_k01_names_and_rhythms
set_option Elab.async false
set_option linter.all false
set_option maxRecDepth 100000
set_option maxHeartbeats 1000000
/-! TV: readings over trees. What an expression gives is a tree of data; what is changed stands in a small store. -/
namespace TV
open PySem PySem.Spec PyProof.Rows L2

/-- a tree of data; obj: a thing in the store (or a class, a def) by its address -/
inductive D where
  | non | bl (b : Bool) | int (i : Int) | str (x : Str)
  | tup (ds : List D) | lst (ds : List D) | fro (ds : List D) | dct (kvs : List (Key × D))
  | ins (C : Addr) (fs : List (Str × D))
  | obj (a : Addr) | ty (n : String)
deriving Inhabited

section
variable (K : PySem.W.Frag) (F : Hp)
mutual
inductive IsD : V → D → Prop where
  | non : IsD .non .non
  | bl {b} : IsD (.bl b) (.bl b)
  | int {i} : IsD (.int i) (.int i)
  | str {x} : IsD (.str x) (.str x)
  | tup {a xs ds} : SqT K F a xs → IsDs xs ds → IsD (.ref a) (.tup ds)
  | lst {a xs ds} : F a = some (.lst xs) → IsDs xs ds → IsD (.ref a) (.lst ds)
  | fro {a xs ds} : SqL K F a xs → IsDs xs ds → IsD (.ref a) (.fro ds)
  | dct {a kvs es} : F a = some (.dK kvs) → IsEs kvs es → IsD (.ref a) (.dct es)
  | ins {a C dx fs es} : F a = some (.ins C dx fs) → IsFs fs es → IsD (.ref a) (.ins C es)
  | obj {a} : IsD (.ref a) (.obj a)
  | ty {n} : IsD (.ty n) (.ty n)
inductive IsDs : List V → List D → Prop where
  | nil : IsDs [] []
  | cons {x xs d ds} : IsD x d → IsDs xs ds → IsDs (x :: xs) (d :: ds)
inductive IsEs : List (Key × V) → List (Key × D) → Prop where
  | nil : IsEs [] []
  | cons {k x xs d ds} : IsD x d → IsEs xs ds → IsEs ((k, x) :: xs) ((k, d) :: ds)
inductive IsFs : List (Str × V) → List (Str × D) → Prop where
  | nil : IsFs [] []
  | cons {k x xs d ds} : IsD x d → IsFs xs ds → IsFs ((k, x) :: xs) ((k, d) :: ds)
end
end

section
variable {K : PySem.W.Frag} {F F' : Hp}
theorem rd_mono (e : Same F F') {a : Addr} {u : HO} (h : Rd F a u) : Rd F' a u := by
  rcases h with h | ⟨o, h⟩
  · exact .inl (e a _ h)
  · exact .inr ⟨o, e a _ h⟩
theorem sql_mono (e : Same F F') {a : Addr} {xs : List V} (h : SqL K F a xs) : SqL K F' a xs := by
  rcases h with h | h
  · exact .inl (rd_mono e h)
  · exact .inr h
theorem sqt_mono (e : Same F F') {a : Addr} {xs : List V} (h : SqT K F a xs) : SqT K F' a xs := by
  rcases h with h | h
  · exact .inl (rd_mono e h)
  · exact .inr h
mutual
theorem IsD.mono (e : Same F F') : ∀ {v d}, IsD K F v d → IsD K F' v d
  | _, _, .non => .non
  | _, _, .bl => .bl
  | _, _, .int => .int
  | _, _, .str => .str
  | _, _, .tup h r => .tup (sqt_mono e h) (r.mono e)
  | _, _, .lst h r => .lst (e _ _ h) (r.mono e)
  | _, _, .fro h r => .fro (sql_mono e h) (r.mono e)
  | _, _, .dct h r => .dct (e _ _ h) (r.mono e)
  | _, _, .ins h r => .ins (e _ _ h) (r.mono e)
  | _, _, .obj => .obj
  | _, _, .ty => .ty
theorem IsDs.mono (e : Same F F') : ∀ {v d}, IsDs K F v d → IsDs K F' v d
  | _, _, .nil => .nil
  | _, _, .cons h r => .cons (h.mono e) (r.mono e)
theorem IsEs.mono (e : Same F F') : ∀ {v d}, IsEs K F v d → IsEs K F' v d
  | _, _, .nil => .nil
  | _, _, .cons h r => .cons (h.mono e) (r.mono e)
theorem IsFs.mono (e : Same F F') : ∀ {v d}, IsFs K F v d → IsFs K F' v d
  | _, _, .nil => .nil
  | _, _, .cons h r => .cons (h.mono e) (r.mono e)
end
theorem IsDs.len : ∀ {xs ds}, IsDs K F xs ds → xs.length = ds.length
  | _, _, .nil => rfl
  | _, _, .cons _ r => congrArg (· + 1) r.len
theorem IsDs.get : ∀ {xs ds} (i : Nat) {d : D}, IsDs K F xs ds → ds[i]? = some d → ∃ x, xs[i]? = some x ∧ IsD K F x d
  | _, _, _, _, .nil, e => by simp at e
  | _, _, 0, _, .cons h _, e => by
    simp at e; subst e; exact ⟨_, rfl, h⟩
  | _, _, i + 1, _, .cons _ r, e => by
    obtain ⟨x, e1, h1⟩ := IsDs.get i r (by simpa using e)
    exact ⟨x, by simpa using e1, h1⟩
theorem IsDs.getV : ∀ {xs ds} (i : Nat) {x : V}, IsDs K F xs ds → xs[i]? = some x → ∃ d, ds[i]? = some d ∧ IsD K F x d
  | _, _, _, _, .nil, e => by simp at e
  | _, _, 0, _, .cons h _, e => by
    simp at e; subst e; exact ⟨_, rfl, h⟩
  | _, _, i + 1, _, .cons _ r, e => by
    obtain ⟨x, e1, h1⟩ := IsDs.getV i r (by simpa using e)
    exact ⟨x, by simpa using e1, h1⟩
theorem IsDs.app : ∀ {xs ds ys es}, IsDs K F xs ds → IsDs K F ys es → IsDs K F (xs ++ ys) (ds ++ es)
  | _, _, _, _, .nil, q => q
  | _, _, _, _, .cons h r, q => .cons h (r.app q)
theorem IsDs.take : ∀ {xs ds} (n : Nat), IsDs K F xs ds → IsDs K F (xs.take n) (ds.take n)
  | _, _, 0, _ => .nil
  | _, _, _ + 1, .nil => .nil
  | _, _, n + 1, .cons h r => .cons h (r.take n)
theorem IsDs.drop : ∀ {xs ds} (n : Nat), IsDs K F xs ds → IsDs K F (xs.drop n) (ds.drop n)
  | _, _, 0, r => r
  | _, _, _ + 1, .nil => .nil
  | _, _, n + 1, .cons _ r => r.drop n
theorem IsDs.rev {xs ds} (h : IsDs K F xs ds) : IsDs K F xs.reverse ds.reverse := by
  induction xs generalizing ds with
  | nil => cases h; exact .nil
  | cons x xs ih =>
    cases h with
    | cons h r =>
      rw [List.reverse_cons, List.reverse_cons]
      exact (ih r).app (.cons h .nil)
theorem IsDs.set {x : V} {d : D} (q : IsD K F x d) : ∀ {xs ds} (i : Nat), IsDs K F xs ds → IsDs K F (xs.set i x) (ds.set i d)
  | _, _, _, .nil => .nil
  | _, _, 0, .cons _ r => .cons q r
  | _, _, i + 1, .cons h r => .cons h (r.set q i)
theorem IsDs.ints : ∀ ns : List Int, IsDs K F (ns.map V.int) (ns.map D.int)
  | [] => .nil
  | _ :: r => .cons .int (IsDs.ints r)
theorem IsDs.strs : ∀ ns : List Str, IsDs K F (ns.map V.str) (ns.map D.str)
  | [] => .nil
  | _ :: r => .cons .str (IsDs.strs r)
end

/-- a thing in the store -/
inductive MO where
  | lst (ds : List D) | dct (kvs : List (Key × D)) | ins (C : Addr) (fs : List (Str × D))
abbrev MS := Addr → Option MO
def updM (M : MS) (a : Addr) (m : MO) : MS := fun b => if b = a then some m else M b
def delM (M : MS) (a : Addr) : MS := fun b => if b = a then none else M b
theorem updM_same {M : MS} {a : Addr} {m : MO} : updM M a m a = some m := by unfold updM; rw [if_pos rfl]
theorem updM_ne {M : MS} {a b : Addr} {m : MO} (h : b ≠ a) : updM M a m b = M b := by unfold updM; rw [if_neg h]
theorem updM_updM {M : MS} {a : Addr} {m n : MO} : updM (updM M a m) a n = updM M a n := by
  funext b; unfold updM; split <;> rfl
theorem delM_same {M : MS} {a : Addr} : delM M a a = none := by unfold delM; rw [if_pos rfl]
theorem delM_ne {M : MS} {a b : Addr} (h : b ≠ a) : delM M a b = M b := by unfold delM; rw [if_neg h]
theorem delM_updM {M : MS} {a : Addr} {m : MO} (h : M a = none) : delM (updM M a m) a = M := by
  funext b; unfold delM updM
  by_cases e : b = a
  · subst e; rw [if_pos rfl, h]
  · rw [if_neg e, if_neg e]

inductive MOk (K : PySem.W.Frag) (F : Hp) : HO → MO → Prop where
  | lst {xs ds} : IsDs K F xs ds → MOk K F (.lst xs) (.lst ds)
  | dct {kvs es} : IsEs K F kvs es → MOk K F (.dK kvs) (.dct es)
  | ins {C dx fs es} : IsFs K F fs es → MOk K F (.ins C dx fs) (.ins C es)
theorem MOk.mono {K : PySem.W.Frag} {F F' : Hp} (e : Same F F') {o m} (h : MOk K F o m) : MOk K F' o m := by
  cases h with
  | lst h => exact .lst (h.mono e)
  | dct h => exact .dct (h.mono e)
  | ins h => exact .ins (h.mono e)

structure HeapOk (K : PySem.W.Frag) (F : Hp) (M : MS) (H : Hp) : Prop where
  sub : Same F H
  mu : ∀ a m, M a = some m → F a = none ∧ ∃ o, H a = some o ∧ MOk K F o m
  sm : ∃ φ, H sysModules = some (.ext φ) ∧ F sysModules = none ∧ M sysModules = none

/-- what may change: the rest stands -/
structure Gr (F : Hp) (M : MS) (H : Hp) (F' : Hp) (M' : MS) (H' : Hp) : Prop where
  ex : Same F F'
  fz : ∀ a, F' a ≠ none → F a ≠ none ∨ M a ≠ none ∨ H a = none
  mu : ∀ a, M' a ≠ none → M a ≠ none ∨ H a = none
  fr : ∀ a o, H a = some o → F a = none → M a = none → H' a = some o
  dom : ∀ a, H a ≠ none → H' a ≠ none

section
variable {K : PySem.W.Frag} {F F1 F2 : Hp} {M M1 M2 : MS} {H H1 H2 : Hp}
theorem Gr.refl : Gr F M H F M H := ⟨fun _ _ h => h, fun _ h => .inl h, fun _ h => .inl h, fun _ _ h _ _ => h, fun _ h => h⟩
theorem Gr.trans (a : Gr F M H F1 M1 H1) (b : Gr F1 M1 H1 F2 M2 H2) : Gr F M H F2 M2 H2 where
  ex := a.ex.trans b.ex
  fz := fun x h => by
    rcases b.fz x h with h | h | h
    · exact a.fz x h
    · rcases a.mu x h with h | h
      · exact .inr (.inl h)
      · exact .inr (.inr h)
    · by_cases e : H x = none
      · exact .inr (.inr e)
      · exact absurd h (a.dom x e)
  mu := fun x h => by
    rcases b.mu x h with h | h
    · exact a.mu x h
    · by_cases e : H x = none
      · exact .inr e
      · exact absurd h (a.dom x e)
  fr := fun x o h hf hm => by
    have h1 := a.fr x o h hf hm
    refine b.fr x o h1 ?_ ?_
    · cases e : F1 x with
      | none => rfl
      | some u =>
        rcases a.fz x (by rw [e]; simp) with z | z | z
        · exact absurd hf z
        · exact absurd hm z
        · rw [h] at z; cases z
    · cases e : M1 x with
      | none => rfl
      | some u =>
        rcases a.mu x (by rw [e]; simp) with z | z
        · exact absurd hm z
        · rw [h] at z; cases z
  dom := fun x h => b.dom x (a.dom x h)
theorem Gr.keepF (a : Gr F M H F1 M1 H1) {x : Addr} {o : HO} (h : H x = some o) (hf : F x = none) (hm : M x = none) : F1 x = none := by
  cases e : F1 x with
  | none => rfl
  | some u =>
    rcases a.fz x (by rw [e]; simp) with z | z | z
    · exact absurd hf z
    · exact absurd hm z
    · rw [h] at z; cases z
theorem Gr.keepM (a : Gr F M H F1 M1 H1) {x : Addr} {o : HO} (h : H x = some o) (hm : M x = none) : M1 x = none := by
  cases e : M1 x with
  | none => rfl
  | some u =>
    rcases a.mu x (by rw [e]; simp) with z | z
    · exact absurd hm z
    · rw [h] at z; cases z
theorem HeapOk.noF (h : HeapOk K F M H) {x : Addr} (n : H x = none) : F x = none := by
  cases e : F x with
  | none => rfl
  | some u => rw [h.sub x u e] at n; cases n
theorem HeapOk.noM (h : HeapOk K F M H) {x : Addr} (n : H x = none) : M x = none := by
  cases e : M x with
  | none => rfl
  | some u =>
    obtain ⟨_, o, z, _⟩ := h.mu x u e
    rw [z] at n; cases n
/-- a new untracked thing -/
theorem Gr.newU {p : Addr} {o : HO} (n : H p = none) : Gr F M H F M (upd H p o) where
  ex := fun _ _ h => h
  fz := fun _ h => .inl h
  mu := fun _ h => .inl h
  fr := fun a o h _ _ => by rw [upd_ne (ne_of_none h n)]; exact h
  dom := fun a h => by
    by_cases e : a = p
    · subst e; exact absurd n h
    · rw [upd_ne e]; exact h
theorem HeapOk.newU (h : HeapOk K F M H) {p : Addr} {o : HO} (n : H p = none) : HeapOk K F M (upd H p o) :=
  ⟨fun a u e => by rw [upd_ne (ne_of_none (h.sub a u e) n)]; exact h.sub a u e,
    fun a m e => by
      obtain ⟨f, o', z, q⟩ := h.mu a m e
      exact ⟨f, o', by rw [upd_ne (ne_of_none z n)]; exact z, q⟩,
    let ⟨φ, a, b, c⟩ := h.sm; ⟨φ, by rw [upd_ne (ne_of_none a n)]; exact a, b, c⟩⟩
/-- an untracked thing changes -/
theorem HeapOk.setU (h : HeapOk K F M H) {p : Addr} {o : HO} (nf : F p = none) (nm : M p = none) (ns : p ≠ sysModules) : HeapOk K F M (upd H p o) :=
  ⟨fun a u e => by rw [upd_ne (fun z => by subst z; rw [nf] at e; cases e)]; exact h.sub a u e,
    fun a m e => by
      obtain ⟨f, o', z, q⟩ := h.mu a m e
      exact ⟨f, o', by rw [upd_ne (fun z => by subst z; rw [nm] at e; cases e)]; exact z, q⟩,
    let ⟨φ, a, b, c⟩ := h.sm; ⟨φ, by rw [upd_ne (Ne.symm ns)]; exact a, b, c⟩⟩
/-- a thing that stands in the heap alone is frozen -/
theorem Gr.frz {p : Addr} {o : HO} (nf : F p = none) (n : H p = none) : Gr F M H (upd F p o) M (upd H p o) where
  ex := fun a u h => by rw [upd_ne (ne_of_none h nf)]; exact h
  fz := fun a h => by
    by_cases e : a = p
    · subst e; exact .inr (.inr n)
    · rw [upd_ne e] at h; exact .inl h
  mu := fun _ h => .inl h
  fr := fun a o h _ _ => by rw [upd_ne (ne_of_none h n)]; exact h
  dom := fun a h => by
    by_cases e : a = p
    · subst e; exact absurd n h
    · rw [upd_ne e]; exact h
theorem Same.upd {F : Hp} {p : Addr} {o : HO} (nf : F p = none) : Same F (upd F p o) := fun a u h => by rw [upd_ne (ne_of_none h nf)]; exact h
theorem HeapOk.frz (h : HeapOk K F M H) {p : Addr} {o : HO} (n : H p = none) : HeapOk K (upd F p o) M (upd H p o) :=
  ⟨fun a u e => by
    by_cases z : a = p
    · subst z; rw [upd_same] at e ⊢; exact e
    · rw [upd_ne z] at e ⊢; exact h.sub a u e,
    fun a m e => by
      obtain ⟨f, o', z, q⟩ := h.mu a m e
      have ne : a ≠ p := ne_of_none z n
      exact ⟨by rw [upd_ne ne]; exact f, o', by rw [upd_ne ne]; exact z, q.mono (Same.upd (h.noF n))⟩,
    let ⟨φ, a, b, c⟩ := h.sm; have ne : sysModules ≠ p := ne_of_none a n; ⟨φ, by rw [upd_ne ne]; exact a, by rw [upd_ne ne]; exact b, c⟩⟩
theorem HeapOk.noS (h : HeapOk K F M H) {p : Addr} (n : H p = none) : p ≠ sysModules := fun e => by
  obtain ⟨φ, a, _⟩ := h.sm
  rw [e, a] at n; cases n
/-- what stands in H untracked is taken into F -/
theorem HeapOk.take (h : HeapOk K F M H) {p : Addr} {o : HO} (e : H p = some o) (nf : F p = none) (nm : M p = none) (ns : p ≠ sysModules) : HeapOk K (upd F p o) M H :=
  ⟨fun a u q => by
    by_cases z : a = p
    · subst z; rw [upd_same] at q; rw [← q]; exact e
    · rw [upd_ne z] at q; exact h.sub a u q,
    fun a m q => by
      obtain ⟨f, o', z, r⟩ := h.mu a m q
      have ne : a ≠ p := fun z => by subst z; rw [nm] at q; cases q
      exact ⟨by rw [upd_ne ne]; exact f, o', z, r.mono (Same.upd nf)⟩,
    let ⟨φ, a, b, c⟩ := h.sm; ⟨φ, a, by rw [upd_ne (Ne.symm ns)]; exact b, c⟩⟩
/-- .. into the store -/
theorem HeapOk.takeM (h : HeapOk K F M H) {p : Addr} {o : HO} {m : MO} (e : H p = some o) (nf : F p = none) (q : MOk K F o m) (ns : p ≠ sysModules) : HeapOk K F (updM M p m) H :=
  ⟨h.sub, fun a m' e' => by
    by_cases z : a = p
    · subst z; rw [updM_same] at e'; cases e'; exact ⟨nf, o, e, q⟩
    · rw [updM_ne z] at e'; exact h.mu a m' e',
    let ⟨φ, a, b, c⟩ := h.sm; ⟨φ, a, b, by rw [updM_ne (Ne.symm ns)]; exact c⟩⟩
/-- a thing of the store is written -/
theorem HeapOk.put (h : HeapOk K F M H) {p : Addr} {o : HO} {m : MO} (nf : F p = none) (q : MOk K F o m) (ns : p ≠ sysModules) : HeapOk K F (updM M p m) (upd H p o) :=
  ⟨fun a u e => by rw [upd_ne (ne_of_none e nf)]; exact h.sub a u e,
    fun a m' e => by
      by_cases z : a = p
      · subst z; rw [updM_same] at e; cases e; exact ⟨nf, o, upd_same, q⟩
      · rw [updM_ne z] at e
        obtain ⟨f, o', y, r⟩ := h.mu a m' e
        exact ⟨f, o', by rw [upd_ne z]; exact y, r⟩,
    let ⟨φ, a, b, c⟩ := h.sm; ⟨φ, by rw [upd_ne (Ne.symm ns)]; exact a, b, by rw [updM_ne (Ne.symm ns)]; exact c⟩⟩
theorem HeapOk.mS (h : HeapOk K F M H) {p : Addr} {m : MO} (e : M p = some m) : p ≠ sysModules := fun z => by
  obtain ⟨φ, _, _, c⟩ := h.sm
  rw [z, c] at e; cases e
theorem Gr.put {p : Addr} {o : HO} {m m' : MO} (e : M p = some m') : Gr F M H F (updM M p m) (upd H p o) where
  ex := fun _ _ h => h
  fz := fun _ h => .inl h
  mu := fun a h => by
    by_cases z : a = p
    · subst z; exact .inl (by rw [e]; simp)
    · rw [updM_ne z] at h; exact .inl h
  fr := fun a o h _ hm => by rw [upd_ne (fun z => by subst z; rw [e] at hm; cases hm)]; exact h
  dom := fun a h => by
    by_cases z : a = p
    · subst z; rw [upd_same]; simp
    · rw [upd_ne z]; exact h
/-- a new thing of the store -/
theorem Gr.newM {p : Addr} {o : HO} {m : MO} (n : H p = none) : Gr F M H F (updM M p m) (upd H p o) where
  ex := fun _ _ h => h
  fz := fun _ h => .inl h
  mu := fun a h => by
    by_cases z : a = p
    · subst z; exact .inr n
    · rw [updM_ne z] at h; exact .inl h
  fr := fun a o h _ hm => by rw [upd_ne (ne_of_none h n)]; exact h
  dom := fun a h => by
    by_cases z : a = p
    · subst z; exact absurd n h
    · rw [upd_ne z]; exact h
/-- a thing of the store is frozen -/
theorem HeapOk.melt (h : HeapOk K F M H) {p : Addr} {o : HO} {m : MO} (e : M p = some m) (eo : H p = some o) : HeapOk K (upd F p o) (delM M p) H :=
  ⟨fun a u q => by
    by_cases z : a = p
    · subst z; rw [upd_same] at q; rw [← q]; exact eo
    · rw [upd_ne z] at q; exact h.sub a u q,
    fun a m' q => by
      have ne : a ≠ p := fun z => by subst z; rw [delM_same] at q; cases q
      rw [delM_ne ne] at q
      obtain ⟨f, o', y, r⟩ := h.mu a m' q
      exact ⟨by rw [upd_ne ne]; exact f, o', y, r.mono (Same.upd (h.mu p m e).1)⟩,
    let ⟨φ, a, b, c⟩ := h.sm; have ns := Ne.symm (h.mS e); ⟨φ, a, by rw [upd_ne ns]; exact b, by rw [delM_ne ns]; exact c⟩⟩
theorem Gr.melt {p : Addr} {o : HO} {m : MO} (nf : F p = none) (e : M p = some m) : Gr F M H (upd F p o) (delM M p) H where
  ex := Same.upd nf
  fz := fun a h => by
    by_cases z : a = p
    · subst z; exact .inr (.inl (by rw [e]; simp))
    · rw [upd_ne z] at h; exact .inl h
  mu := fun a h => by
    by_cases z : a = p
    · subst z; rw [delM_same] at h; exact absurd rfl h
    · rw [delM_ne z] at h; exact .inl h
  fr := fun _ _ h _ _ => h
  dom := fun _ h => h
end
end TV

set_option Elab.async false
set_option linter.all false
set_option maxRecDepth 100000
set_option maxHeartbeats 1000000
namespace TV
open PySem PySem.Spec PyProof.Rows L2

abbrev DSt := List (Option D)
abbrev XD := Addr → List (Str × D) → MS → Prop
abbrev KD := D → MS → Prop
abbrev DE := DSt → MS → XD → KD → Prop
abbrev DT := DSt → MS → XD → (Bool → MS → Prop) → Prop
abbrev DA := DSt → MS → XD → (List D → MS → Prop) → Prop
structure DEnds where
  nx : DSt → MS → Prop
  rt : KD
  bk : DSt → MS → Prop := fun _ _ => False
  ct : DSt → MS → Prop := fun _ _ => False
abbrev DS := DEnds → DSt → MS → XD → Prop

structure EnvOk (K : PySem.W.Frag) (F : Hp) (σ : L2.St) (ρ : DSt) : Prop where
  len : ρ.length = σ.length
  at_ : ∀ (i : Nat) (d : D), ρ[i]? = some (some d) → ∃ v, σ[i]? = some (some v) ∧ IsD K F v d
theorem EnvOk.mono {K : PySem.W.Frag} {F F' : Hp} {σ : L2.St} {ρ : DSt} (h : EnvOk K F σ ρ) (e : Same F F') : EnvOk K F' σ ρ :=
  ⟨h.len, fun i d q => let ⟨v, a, b⟩ := h.at_ i d q; ⟨v, a, b.mono e⟩⟩
theorem EnvOk.set {K : PySem.W.Frag} {F : Hp} {σ : L2.St} {ρ : DSt} (h : EnvOk K F σ ρ) {v : V} {d : D} (i : Nat) (q : IsD K F v d) : EnvOk K F (σ.set i (some v)) (ρ.set i (some d)) :=
  ⟨by simp [h.len], fun j e z => by
    by_cases ij : i = j
    · subst ij
      have hl : i < ρ.length := by
        have := (List.getElem?_eq_some_iff.mp z).1
        simpa using this
      rw [List.getElem?_set_self hl] at z
      cases z
      exact ⟨v, by rw [List.getElem?_set_self (by rw [← h.len]; exact hl)], q⟩
    · rw [List.getElem?_set_ne ij] at z
      obtain ⟨w, a, b⟩ := h.at_ j e z
      exact ⟨w, by rw [List.getElem?_set_ne ij]; exact a, b⟩⟩
theorem EnvOk.wipe {K : PySem.W.Frag} {F : Hp} {σ : L2.St} {ρ : DSt} (h : EnvOk K F σ ρ) (i : Nat) : EnvOk K F (σ.set i none) (ρ.set i none) :=
  ⟨by simp [h.len], fun j e z => by
    by_cases ij : i = j
    · subst ij
      have hl : i < ρ.length := by
        have := (List.getElem?_eq_some_iff.mp z).1
        simpa using this
      rw [List.getElem?_set_self hl] at z
      cases z
    · rw [List.getElem?_set_ne ij] at z
      obtain ⟨w, a, b⟩ := h.at_ j e z
      exact ⟨w, by rw [List.getElem?_set_ne ij]; exact a, b⟩⟩

/-- an exception of one's own class that leaves meets what is wanted -/
def XOk (K : PySem.W.Frag) (G : XK) (F : Hp) (M : MS) (H : Hp) (x : XD) : Prop :=
  ∀ C fs F' M' H' dx fvs, Gr F M H F' M' H' → HeapOk K F' M' H' → H' dx = some (.xd fvs) → IsFs K F' fvs fs → x C fs M' → G (.ref C) (some dx) H'

structure At (K : PySem.W.Frag) (G : XK) (σ : L2.St) (ρ : DSt) (F : Hp) (M : MS) (H : Hp) (x : XD) : Prop where
  env : EnvOk K F σ ρ
  heap : HeapOk K F M H
  xok : XOk K G F M H x
section
variable {K : PySem.W.Frag} {G : XK} {σ : L2.St} {ρ : DSt} {F F' : Hp} {M M' : MS} {H H' : Hp} {x : XD}
theorem XOk.step (h : XOk K G F M H x) (g : Gr F M H F' M' H') : XOk K G F' M' H' x := fun C fs F2 M2 H2 dx fvs g2 => h C fs F2 M2 H2 dx fvs (g.trans g2)
theorem At.step (h : At K G σ ρ F M H x) (g : Gr F M H F' M' H') (o : HeapOk K F' M' H') : At K G σ ρ F' M' H' x := ⟨h.env.mono g.ex, o, h.xok.step g⟩
end

/-- the continuation over trees meets the one over values -/
def Kt (K : PySem.W.Frag) (F : Hp) (M : MS) (H : Hp) (k : KD) (Q : VK) : Prop :=
  ∀ v d F' M' H', Gr F M H F' M' H' → HeapOk K F' M' H' → IsD K F' v d → k d M' → Q v H'
def rE (K : PySem.W.Frag) (G : XK) (w : DE) : TE := fun σ H Q => ∃ ρ F M x k, At K G σ ρ F M H x ∧ w ρ M x k ∧ Kt K F M H k Q
def rT (K : PySem.W.Frag) (G : XK) (w : DT) : TT := fun σ H Q => ∃ ρ F M x k, At K G σ ρ F M H x ∧ w ρ M x k ∧ ∀ b F' M' H', Gr F M H F' M' H' → HeapOk K F' M' H' → k b M' → Q b H'
def rA (K : PySem.W.Frag) (G : XK) (w : DA) : TA := fun σ H Q => ∃ ρ F M x k, At K G σ ρ F M H x ∧ w ρ M x k ∧ ∀ vs ds F' M' H', Gr F M H F' M' H' → HeapOk K F' M' H' → IsDs K F' vs ds → k ds M' → Q vs H'
/-- a new list, in no one's hands yet -/
def rL (K : PySem.W.Frag) (G : XK) (w : DA) : TE := fun σ H Q => ∃ ρ F M x k, At K G σ ρ F M H x ∧ w ρ M x k ∧
  ∀ p vs ds F' M' H', Gr F M H F' M' H' → HeapOk K F' M' H' → H p = none → H' p = some (.lst vs) → F' p = none → M' p = none → IsDs K F' vs ds → k ds M' → Q (.ref p) H'
abbrev XE (X : Cx) (G : XK) (e : Expr) (w : DE) : Prop := PE X e (rE X.K G w)
abbrev XT (X : Cx) (G : XK) (e : Expr) (w : DT) : Prop := PT X e (rT X.K G w)
abbrev XW (X : Cx) (G : XK) (e : Expr) (w : DT) : Prop := PW X e (rT X.K G w)
abbrev XA (X : Cx) (G : XK) (es : List Expr) (w : DA) : Prop := PA X es (rA X.K G w)
abbrev XL (X : Cx) (G : XK) (e : Expr) (w : DA) : Prop := PE X e (rL X.K G w)

theorem PE.imp {X : Cx} {e : Expr} {t t' : TE} (h : PE X e t) (f : ∀ σ H Q, t' σ H Q → t σ H Q) : PE X e t' := ⟨fun pins s σ H Q I q => h.run pins s σ H Q I (f σ H Q q)⟩
theorem PT.imp {X : Cx} {e : Expr} {t t' : TT} (h : PT X e t) (f : ∀ σ H Q, t' σ H Q → t σ H Q) : PT X e t' := ⟨fun pins s σ H Q I q => h.run pins s σ H Q I (f σ H Q q)⟩
theorem PW.imp {X : Cx} {e : Expr} {t t' : TT} (h : PW X e t) (f : ∀ σ H Q, t' σ H Q → t σ H Q) : PW X e t' := ⟨fun wh pins s σ H Q I q => h.run wh pins s σ H Q I (f σ H Q q)⟩
theorem PA.imp {X : Cx} {e : List Expr} {t t' : TA} (h : PA X e t) (f : ∀ σ H Q, t' σ H Q → t σ H Q) : PA X e t' := ⟨fun pos pins s σ H Q I q => h.run pos pins s σ H Q I (f σ H Q q)⟩
theorem PS.imp {X : Cx} {e : Stmt} {t t' : TS} (h : PS X e t) (f : ∀ D σ H, t' D σ H → t D σ H) : PS X e t' := ⟨fun pins s σ H D I q => h.run pins s σ H D I (f D σ H q)⟩
theorem PSs.imp {X : Cx} {e : List Stmt} {t t' : TS} (h : PSs X e t) (f : ∀ D σ H, t' D σ H → t D σ H) : PSs X e t' := ⟨fun pins s σ H D I q => h.run pins s σ H D I (f D σ H q)⟩

/-! ### the base -/
section
variable {X : Cx} {G : XK} {a b c e : Expr} {es : List Expr} {wa wb wc : DE} {pos : Pos}
/-- what is seen of a thing -/
def view (M : MS) : D → D
  | .obj p => match M p with
    | some (.lst ds) => .lst ds
    | some (.dct es) => .dct es
    | some (.ins C fs) => .ins C fs
    | none => .obj p
  | d => d
def wVar (i : Nat) : DE := fun ρ M _ k => ∃ d, ρ[i]? = some (some d) ∧ k d M
def wC (d : D) : DE := fun _ M _ k => k d M
theorem xv (i : Nat) {x : Str} {pos : Pos} (hN : X.N[i]? = some x := by rfl) (hv : Vis X.env.scope x := by first | exact Or.inl rfl | exact Or.inr (Or.inl rfl) | exact Or.inr (Or.inr rfl)) (hd : (x == ("__debug__" : Str)) = false := by decide)
    (hcd : (x == ("__classdict__" : Str)) = false := by decide) : XE X G (.Name x pos) (wVar i) :=
  PE.imp (pe_var hN hv hd hcd) fun σ H Q ⟨ρ, F, M, x, k, a, ⟨d, e, q⟩, kt⟩ => by
    obtain ⟨v, ev, hv⟩ := a.env.at_ i d e
    exact ⟨v, ev, kt v d F M H .refl a.heap hv q⟩
theorem xc_of {v : V} {d : D} (h : ∀ F, IsD X.K F v d) (p : PE X e (tC v)) : XE X G e (wC d) :=
  PE.imp p fun σ H Q ⟨ρ, F, M, x, k, a, q, kt⟩ => kt v d F M H .refl a.heap (h F) q
theorem xint {i j pos} : XE X G (.Constant (.int i) j pos) (wC (.int i)) := xc_of (fun _ => .int) pe_int
theorem xbl {b j pos} : XE X G (.Constant (.bool b) j pos) (wC (.bl b)) := xc_of (fun _ => .bl) pe_bl
theorem xnon {j pos} : XE X G (.Constant .none j pos) (wC .non) := xc_of (fun _ => .non) pe_non
theorem xstr {s j pos} : XE X G (.Constant (.str s) j pos) (wC (.str s)) := xc_of (fun _ => .str) pe_str
theorem xglob {x : Str} {v : V} {d : D} {u : Value} {pos : Pos} (h : ∀ F, IsD X.K F v d) (hg : Gl X x) (hm : X.mg x = some u) (r : RelV v u) (hd : (x == ("__debug__" : Str)) = false := by decide) : XE X G (.Name x pos) (wC d) := xc_of h (pe_glob hg hm r hd)
theorem xbltn {x : Str} {v : V} {d : D} {u : Value} {pos : Pos} (h : ∀ F, IsD X.K F v d) (hg : Gl X x) (hm : X.mg x = none) (hv : bootBuiltins x = some u) (r : RelV v u) (hn : x ≠ "__name__" := by decide) (hd : (x == ("__debug__" : Str)) = false := by decide) : XE X G (.Name x pos) (wC d) :=
  xc_of h (pe_bltn hg hm hv r hn hd)

def wNil : DA := fun _ M _ k => k [] M
def wCons (w : DE) (ws : DA) : DA := fun ρ M x k => w ρ M x fun d M1 => ws ρ M1 x fun ds M2 => k (d :: ds) M2
theorem xa_nil : XA X G [] wNil := PA.imp pa_nil fun σ H Q ⟨ρ, F, M, x, k, a, q, kt⟩ => kt [] [] F M H .refl a.heap .nil q
theorem xa_cons {ws : DA} (h : XE X G e wa) (hs : XA X G es ws) (ha : starEach (e :: es) X.env = (false, eval e X.env) :: starEach es X.env := by rfl) : XA X G (e :: es) (wCons wa ws) :=
  PA.imp (pa_cons h hs ha) fun σ H Q ⟨ρ, F, M, x, k, a, q, kt⟩ =>
    ⟨ρ, F, M, x, _, a, q, fun v d F1 M1 H1 g1 o1 i1 q1 =>
      ⟨ρ, F1, M1, x, _, a.step g1 o1, q1, fun vs ds F2 M2 H2 g2 o2 i2 q2 => kt _ _ F2 M2 H2 (g1.trans g2) o2 (.cons (i1.mono g2.ex) i2) q2⟩⟩

/-! ### operators -/
abbrev OD := MS → D → D → (D → Prop) → Prop
def Lifts (K : PySem.W.Frag) (od : OD) (r : R2) : Prop := ∀ F M H v u d e (q : D → Prop) (Q : VK), HeapOk K F M H → IsD K F v d → IsD K F u e → od M d e q →
  (∀ w c F' H', Gr F M H F' M H' → HeapOk K F' M H' → IsD K F' w c → q c → Q w H') → r v u H Q
def wOp (od : OD) (wa wb : DE) : DE := fun ρ M x k => wa ρ M x fun d M1 => wb ρ M1 x fun e M2 => od M2 d e fun c => k c M2
theorem tOp_of {r : R2} {od : OD} (l : Lifts X.K od r) {σ : L2.St} {H : Hp} {Q : VK} (h : rE X.K G (wOp od wa wb) σ H Q) : tOp r (rE X.K G wa) (rE X.K G wb) σ H Q := by
  obtain ⟨ρ, F, M, x, k, a, q, kt⟩ := h
  refine ⟨ρ, F, M, x, _, a, q, fun v d F1 M1 H1 g1 o1 i1 q1 => ?_⟩
  refine ⟨ρ, F1, M1, x, _, a.step g1 o1, q1, fun u e F2 M2 H2 g2 o2 i2 q2 => ?_⟩
  exact l F2 M2 H2 v u d e _ Q o2 (i1.mono g2.ex) i2 q2 fun w c F' H' g o i q' => kt w c F' M2 H' ((g1.trans g2).trans g) o i q'
theorem xe_op {op : Operator} {r : R2} {od : OD} (ho : OpR X (binaryOp op) r) (l : Lifts X.K od r) (ha : XE X G a wa) (hb : XE X G b wb) : XE X G (.BinOp a op b pos) (wOp od wa wb) :=
  PE.imp (pe_op ho ha hb) fun σ H Q h => tOp_of l h
theorem xe_cmp {op : CmpOp} {r : R2} {od : OD} (ho : OpR X (compareOp op) r) (l : Lifts X.K od r) (ha : XE X G a wa) (hb : XE X G b wb) (hm : behindInMarks op b = false) : XE X G (.Compare a [op] [b] pos) (wOp od wa wb) :=
  PE.imp (pe_cmpR ho ha hb hm) fun σ H Q h => tOp_of l h
def wTest (w : DE) : DT := fun ρ M x k => w ρ M x fun d M1 => ∃ b, d = .bl b ∧ k b M1
theorem isD_bl {K : PySem.W.Frag} {F : Hp} {v : V} {b : Bool} (h : IsD K F v (.bl b)) : v = .bl b := by cases h; rfl
theorem isD_int {K : PySem.W.Frag} {F : Hp} {v : V} {b : Int} (h : IsD K F v (.int b)) : v = .int b := by cases h; rfl
theorem isD_str {K : PySem.W.Frag} {F : Hp} {v : V} {b : Str} (h : IsD K F v (.str b)) : v = .str b := by cases h; rfl
theorem tTest_of {t : TE} {w : DE} (ht : ∀ σ H Q, rE X.K G w σ H Q → t σ H Q) {σ : L2.St} {H : Hp} {Q : Bool → Hp → Prop} (h : rT X.K G (wTest w) σ H Q) : tTest t σ H Q := by
  obtain ⟨ρ, F, M, x, k, a, q, kt⟩ := h
  refine ht _ _ _ ⟨ρ, F, M, x, _, a, q, fun v d F1 M1 H1 g1 o1 i1 ⟨b, eb, qb⟩ => ?_⟩
  subst eb
  exact ⟨b, isD_bl i1, kt b F1 M1 H1 g1 o1 qb⟩
theorem xt_cmp {op : CmpOp} {r : R2} {od : OD} (ho : OpR X (compareOp op) r) (l : Lifts X.K od r) (ha : XE X G a wa) (hb : XE X G b wb) (hm : behindInMarks op b = false) : XT X G (.Compare a [op] [b] pos) (wTest (wOp od wa wb)) :=
  PT.imp (pt_cmpR ho ha hb hm) fun σ H Q h => tTest_of (fun _ _ _ z => tOp_of l z) h
def wChain (od od' : OD) (wa wb wc : DE) : DE := fun ρ M x k => wa ρ M x fun d M1 => wb ρ M1 x fun e M2 => od M2 d e fun z => ∃ b, z = .bl b ∧
  (if b = true then wc ρ M2 x fun f M3 => od' M3 e f fun y => k y M3 else k (.bl false) M2)
theorem tChain_of {r r' : R2} {od od' : OD} (l : Lifts X.K od r) (l' : Lifts X.K od' r') {σ : L2.St} {H : Hp} {Q : VK} (h : rE X.K G (wChain od od' wa wb wc) σ H Q) : tChain r r' (rE X.K G wa) (rE X.K G wb) (rE X.K G wc) σ H Q := by
  obtain ⟨ρ, F, M, x, k, a, q, kt⟩ := h
  refine ⟨ρ, F, M, x, _, a, q, fun v d F1 M1 H1 g1 o1 i1 q1 => ?_⟩
  refine ⟨ρ, F1, M1, x, _, a.step g1 o1, q1, fun u e F2 M2 H2 g2 o2 i2 q2 => ?_⟩
  refine l F2 M2 H2 v u d e _ _ o2 (i1.mono g2.ex) i2 q2 fun w c F3 H3 g3 o3 i3 ⟨b, eb, qb⟩ => ?_
  subst eb
  refine ⟨b, isD_bl i3, ?_⟩
  cases b with
  | false =>
    rw [if_neg (by decide)] at qb ⊢
    exact kt _ _ F3 M2 H3 ((g1.trans g2).trans g3) o3 .bl qb
  | true =>
    rw [if_pos rfl] at qb ⊢
    refine ⟨ρ, F3, M2, x, _, a.step ((g1.trans g2).trans g3) o3, qb, fun y f F4 M4 H4 g4 o4 i4 q4 => ?_⟩
    exact l' F4 M4 H4 u y e f _ Q o4 (i2.mono (g3.trans g4).ex) i4 q4 fun w c F' H' g o i q' => kt w c F' M4 H' ((((g1.trans g2).trans g3).trans g4).trans g) o i q'
theorem xe_chain {op op' : CmpOp} {r r' : R2} {od od' : OD} (ho : OpR X (compareOp op) r) (ho' : OpR X (compareOp op') r') (l : Lifts X.K od r) (l' : Lifts X.K od' r') (ha : XE X G a wa) (hb : XE X G b wb) (hc : XE X G c wc)
    (hm : lastMarks [op, op'] [b, c] = false := by with_unfolding_all rfl) : XE X G (.Compare a [op, op'] [b, c] pos) (wChain od od' wa wb wc) :=
  PE.imp (pe_chain ho ho' ha hb hc hm) fun σ H Q h => tChain_of l l' h
theorem xt_chain {op op' : CmpOp} {r r' : R2} {od od' : OD} (ho : OpR X (compareOp op) r) (ho' : OpR X (compareOp op') r') (l : Lifts X.K od r) (l' : Lifts X.K od' r') (ha : XE X G a wa) (hb : XE X G b wb) (hc : XE X G c wc)
    (hm : lastMarks [op, op'] [b, c] = false := by with_unfolding_all rfl) : XT X G (.Compare a [op, op'] [b, c] pos) (wTest (wChain od od' wa wb wc)) :=
  PT.imp (pt_chain ho ho' ha hb hc hm) fun σ H Q h => tTest_of (fun _ _ _ z => tChain_of l l' z) h
def wUn (od : MS → D → (D → Prop) → Prop) (wa : DE) : DE := fun ρ M x k => wa ρ M x fun d M1 => od M1 d fun c => k c M1
theorem xe_neg (ha : XE X G a wa) : XE X G (.UnaryOp .USub a pos) (wUn (fun _ d q => ∃ i, d = .int i ∧ q (.int (-i))) wa) :=
  PE.imp (pe_un un_neg ha) fun σ H Q ⟨ρ, F, M, x, k, a, q, kt⟩ => ⟨ρ, F, M, x, _, a, q, fun v d F1 M1 H1 g1 o1 i1 ⟨i, e, q1⟩ => by
    subst e
    exact ⟨i, isD_int i1, kt _ _ F1 M1 H1 g1 o1 .int q1⟩⟩

/-! ### tests -/
/-- truth of what is seen -/
def truD (M : MS) (d : D) (q : Bool → Prop) : Prop :=
  match view M d with
  | .non => q false
  | .bl b => q b
  | .int i => q (i != 0)
  | .str s => s.length ≤ sizeLine ∧ q ((s.length : Int) != 0)
  | .lst ds => q (!ds.isEmpty)
  | .tup ds => q (!ds.isEmpty)
  | .dct es => q (!es.isEmpty)
  | _ => False
def wTru (w : DE) : DT := fun ρ M x k => w ρ M x fun d M1 => truD M1 d fun b => k b M1
def wAnd (w u : DT) : DT := fun ρ M x k => w ρ M x fun b M1 => if b = true then u ρ M1 x k else k false M1
def wOr (w u : DT) : DT := fun ρ M x k => w ρ M x fun b M1 => if b = true then k true M1 else u ρ M1 x k
def wNot (w : DT) : DT := fun ρ M x k => w ρ M x fun b M1 => k (!b) M1
variable {tA tB : DT} {rest : List Expr}
theorem xw_and1 (ha : XT X G a tA) : XW X G (.BoolOp .And [a] pos) tA := pw_and1 ha
theorem xw_or1 (ha : XT X G a tA) : XW X G (.BoolOp .Or [a] pos) tA := pw_or1 ha
theorem xw_and (ha : XT X G a tA) (hb : XW X G (.BoolOp .And (b :: rest) pos) tB) : XW X G (.BoolOp .And (a :: b :: rest) pos) (wAnd tA tB) :=
  PW.imp (pw_and ha hb) fun σ H Q ⟨ρ, F, M, x, k, a, q, kt⟩ => ⟨ρ, F, M, x, _, a, q, fun b F1 M1 H1 g1 o1 q1 => by
    cases b with
    | true =>
      rw [if_pos rfl] at q1 ⊢
      exact ⟨ρ, F1, M1, x, _, a.step g1 o1, q1, fun b F2 M2 H2 g2 o2 q2 => kt b F2 M2 H2 (g1.trans g2) o2 q2⟩
    | false =>
      rw [if_neg (by decide)] at q1 ⊢
      exact kt _ F1 M1 H1 g1 o1 q1⟩
theorem xw_or (ha : XT X G a tA) (hb : XW X G (.BoolOp .Or (b :: rest) pos) tB) : XW X G (.BoolOp .Or (a :: b :: rest) pos) (wOr tA tB) :=
  PW.imp (pw_or ha hb) fun σ H Q ⟨ρ, F, M, x, k, a, q, kt⟩ => ⟨ρ, F, M, x, _, a, q, fun b F1 M1 H1 g1 o1 q1 => by
    cases b with
    | false =>
      rw [if_neg (by decide)] at q1 ⊢
      exact ⟨ρ, F1, M1, x, _, a.step g1 o1, q1, fun b F2 M2 H2 g2 o2 q2 => kt b F2 M2 H2 (g1.trans g2) o2 q2⟩
    | true =>
      rw [if_pos rfl] at q1 ⊢
      exact kt _ F1 M1 H1 g1 o1 q1⟩
theorem xt_not (ha : XT X G a tA) : XT X G (.UnaryOp .Not a pos) (wNot tA) :=
  PT.imp (pt_not ha) fun σ H Q ⟨ρ, F, M, x, k, a, q, kt⟩ => ⟨ρ, F, M, x, _, a, q, fun b F1 M1 H1 g1 o1 q1 => kt _ F1 M1 H1 g1 o1 q1⟩
def wAndV (w u : DE) : DE := fun ρ M x k => w ρ M x fun d M1 => ∃ b, d = .bl b ∧ (if b = true then u ρ M1 x k else k (.bl false) M1)
def wOrV (w u : DE) : DE := fun ρ M x k => w ρ M x fun d M1 => ∃ b, d = .bl b ∧ (if b = true then k (.bl true) M1 else u ρ M1 x k)
def wNotV (w : DE) : DE := fun ρ M x k => w ρ M x fun d M1 => ∃ b, d = .bl b ∧ k (.bl (!b)) M1
theorem xe_one {op} (h : XE X G a wa) : XE X G (.BoolOp op [a] pos) wa := pe_one h
theorem xe_and (ha : XE X G a wa) (hb : XE X G (.BoolOp .And (b :: rest) pos) wb) : XE X G (.BoolOp .And (a :: b :: rest) pos) (wAndV wa wb) :=
  PE.imp (pe_and ha hb) fun σ H Q ⟨ρ, F, M, x, k, a, q, kt⟩ => ⟨ρ, F, M, x, _, a, q, fun v d F1 M1 H1 g1 o1 i1 ⟨b, eb, q1⟩ => by
    subst eb
    refine ⟨b, isD_bl i1, ?_⟩
    cases b with
    | true =>
      rw [if_pos rfl] at q1 ⊢
      exact ⟨ρ, F1, M1, x, _, a.step g1 o1, q1, fun v d F2 M2 H2 g2 o2 i2 q2 => kt v d F2 M2 H2 (g1.trans g2) o2 i2 q2⟩
    | false =>
      rw [if_neg (by decide)] at q1 ⊢
      exact kt _ _ F1 M1 H1 g1 o1 .bl q1⟩
theorem xe_or (ha : XE X G a wa) (hb : XE X G (.BoolOp .Or (b :: rest) pos) wb) : XE X G (.BoolOp .Or (a :: b :: rest) pos) (wOrV wa wb) :=
  PE.imp (pe_or ha hb) fun σ H Q ⟨ρ, F, M, x, k, a, q, kt⟩ => ⟨ρ, F, M, x, _, a, q, fun v d F1 M1 H1 g1 o1 i1 ⟨b, eb, q1⟩ => by
    subst eb
    refine ⟨b, isD_bl i1, ?_⟩
    cases b with
    | false =>
      rw [if_neg (by decide)] at q1 ⊢
      exact ⟨ρ, F1, M1, x, _, a.step g1 o1, q1, fun v d F2 M2 H2 g2 o2 i2 q2 => kt v d F2 M2 H2 (g1.trans g2) o2 i2 q2⟩
    | true =>
      rw [if_pos rfl] at q1 ⊢
      exact kt _ _ F1 M1 H1 g1 o1 .bl q1⟩
theorem xe_not (ha : XE X G a wa) : XE X G (.UnaryOp .Not a pos) (wNotV wa) :=
  PE.imp (pe_not ha) fun σ H Q ⟨ρ, F, M, x, k, a, q, kt⟩ => ⟨ρ, F, M, x, _, a, q, fun v d F1 M1 H1 g1 o1 i1 ⟨b, eb, q1⟩ => by
    subst eb
    exact ⟨b, isD_bl i1, kt _ _ F1 M1 H1 g1 o1 .bl q1⟩⟩
def wIfE (t : DT) (wa wb : DE) : DE := fun ρ M x k => t ρ M x fun b M1 => if b = true then wa ρ M1 x k else wb ρ M1 x k
theorem xe_if {c : Expr} (hc : XT X G c tA) (ha : XE X G a wa) (hb : XE X G b wb) : XE X G (.IfExp c a b pos) (wIfE tA wa wb) :=
  PE.imp (pe_ifExp hc ha hb) fun σ H Q ⟨ρ, F, M, x, k, a, q, kt⟩ => ⟨ρ, F, M, x, _, a, q, fun b F1 M1 H1 g1 o1 q1 => by
    cases b with
    | true =>
      rw [if_pos rfl] at q1 ⊢
      exact ⟨ρ, F1, M1, x, _, a.step g1 o1, q1, fun v d F2 M2 H2 g2 o2 i2 q2 => kt v d F2 M2 H2 (g1.trans g2) o2 i2 q2⟩
    | false =>
      rw [if_neg (by decide)] at q1 ⊢
      exact ⟨ρ, F1, M1, x, _, a.step g1 o1, q1, fun v d F2 M2 H2 g2 o2 i2 q2 => kt v d F2 M2 H2 (g1.trans g2) o2 i2 q2⟩⟩
end

/-! ### what is seen, over values -/
section
variable {K : PySem.W.Frag} {F : Hp} {M : MS} {H : Hp} {v : V} {d : D}
theorem seen (o : HeapOk K F M H) (h : IsD K F v d) : (∃ p, d = .obj p ∧ v = .ref p ∧ ((∃ ds xs, M p = some (.lst ds) ∧ view M d = .lst ds ∧ H p = some (.lst xs) ∧ IsDs K F xs ds) ∨ (∃ es kvs, M p = some (.dct es) ∧ view M d = .dct es ∧ H p = some (.dK kvs) ∧ IsEs K F kvs es) ∨
    (∃ C fs dx gs, M p = some (.ins C fs) ∧ view M d = .ins C fs ∧ H p = some (.ins C dx gs) ∧ IsFs K F gs fs) ∨ (M p = none ∧ view M d = d))) ∨ ((∀ p, d ≠ .obj p) ∧ view M d = d) := by
  cases d with
  | obj p =>
    cases h
    refine .inl ⟨p, rfl, rfl, ?_⟩
    cases e : M p with
    | none => exact .inr (.inr (.inr ⟨rfl, by simp [view, e]⟩))
    | some m =>
      obtain ⟨_, u, hu, q⟩ := o.mu p m e
      cases q with
      | lst q => exact .inl ⟨_, _, rfl, by simp [view, e], hu, q⟩
      | dct q => exact .inr (.inl ⟨_, _, rfl, by simp [view, e], hu, q⟩)
      | ins q => exact .inr (.inr (.inl ⟨_, _, _, _, rfl, by simp [view, e], hu, q⟩))
  | _ => exact .inr ⟨fun p => by simp, rfl⟩
theorem asLst (o : HeapOk K F M H) (h : IsD K F v d) {ds : List D} (e : view M d = .lst ds) : ∃ a xs, v = .ref a ∧ H a = some (.lst xs) ∧ IsDs K F xs ds := by
  rcases seen o h with ⟨p, rfl, rfl, ⟨ds', xs, _, e', hh, q⟩ | ⟨es, kvs, _, e', _⟩ | ⟨C, fs, dx, gs, _, e', _⟩ | ⟨_, e'⟩⟩ | ⟨n, e'⟩
  · rw [e] at e'; cases e'; exact ⟨p, xs, rfl, hh, q⟩
  · rw [e] at e'; cases e'
  · rw [e] at e'; cases e'
  · rw [e] at e'; cases e'
  · rw [e] at e'
    subst e'
    cases h with
    | lst s q => exact ⟨_, _, rfl, o.sub _ _ s, q⟩
theorem asTup (o : HeapOk K F M H) (h : IsD K F v d) {ds : List D} (e : view M d = .tup ds) : ∃ a xs, v = .ref a ∧ SqT K H a xs ∧ IsDs K F xs ds ∧ d = .tup ds := by
  rcases seen o h with ⟨p, rfl, rfl, ⟨ds', xs, _, e', hh, q⟩ | ⟨es, kvs, _, e', _⟩ | ⟨C, fs, dx, gs, _, e', _⟩ | ⟨_, e'⟩⟩ | ⟨n, e'⟩
  · rw [e] at e'; cases e'
  · rw [e] at e'; cases e'
  · rw [e] at e'; cases e'
  · rw [e] at e'; cases e'
  · rw [e] at e'
    subst e'
    cases h with
    | tup s q => exact ⟨_, _, rfl, sqt_mono o.sub s, q, rfl⟩
theorem asDct (o : HeapOk K F M H) (h : IsD K F v d) {es : List (Key × D)} (e : view M d = .dct es) : ∃ a kvs, v = .ref a ∧ H a = some (.dK kvs) ∧ IsEs K F kvs es := by
  rcases seen o h with ⟨p, rfl, rfl, ⟨ds', xs, _, e', hh, q⟩ | ⟨es, kvs, _, e', hh, q⟩ | ⟨C, fs, dx, gs, _, e', _⟩ | ⟨_, e'⟩⟩ | ⟨n, e'⟩
  · rw [e] at e'; cases e'
  · rw [e] at e'; cases e'; exact ⟨p, kvs, rfl, hh, q⟩
  · rw [e] at e'; cases e'
  · rw [e] at e'; cases e'
  · rw [e] at e'
    subst e'
    cases h with
    | dct s q => exact ⟨_, _, rfl, o.sub _ _ s, q⟩
theorem asIns (o : HeapOk K F M H) (h : IsD K F v d) {C : Addr} {fs : List (Str × D)} (e : view M d = .ins C fs) : ∃ a dx gs, v = .ref a ∧ H a = some (.ins C dx gs) ∧ IsFs K F gs fs := by
  rcases seen o h with ⟨p, rfl, rfl, ⟨ds', xs, _, e', hh, q⟩ | ⟨es, kvs, _, e', hh, q⟩ | ⟨C', fs', dx, gs, _, e', hh, q⟩ | ⟨_, e'⟩⟩ | ⟨n, e'⟩
  · rw [e] at e'; cases e'
  · rw [e] at e'; cases e'
  · rw [e] at e'; cases e'; exact ⟨p, dx, gs, rfl, hh, q⟩
  · rw [e] at e'; cases e'
  · rw [e] at e'
    subst e'
    cases h with
    | ins s q => exact ⟨_, _, _, rfl, o.sub _ _ s, q⟩
theorem asInt (o : HeapOk K F M H) (h : IsD K F v d) {i : Int} (e : view M d = .int i) : v = .int i ∧ d = .int i := by
  rcases seen o h with ⟨p, rfl, rfl, ⟨ds', xs, _, e', hh, q⟩ | ⟨es, kvs, _, e', hh, q⟩ | ⟨C', fs', dx, gs, _, e', hh, q⟩ | ⟨_, e'⟩⟩ | ⟨n, e'⟩
  · rw [e] at e'; cases e'
  · rw [e] at e'; cases e'
  · rw [e] at e'; cases e'
  · rw [e] at e'; cases e'
  · rw [e] at e'
    subst e'
    exact ⟨isD_int h, rfl⟩
theorem asStr (o : HeapOk K F M H) (h : IsD K F v d) {i : Str} (e : view M d = .str i) : v = .str i ∧ d = .str i := by
  rcases seen o h with ⟨p, rfl, rfl, ⟨ds', xs, _, e', hh, q⟩ | ⟨es, kvs, _, e', hh, q⟩ | ⟨C', fs', dx, gs, _, e', hh, q⟩ | ⟨_, e'⟩⟩ | ⟨n, e'⟩
  · rw [e] at e'; cases e'
  · rw [e] at e'; cases e'
  · rw [e] at e'; cases e'
  · rw [e] at e'; cases e'
  · rw [e] at e'
    subst e'
    exact ⟨isD_str h, rfl⟩
theorem asBl (o : HeapOk K F M H) (h : IsD K F v d) {i : Bool} (e : view M d = .bl i) : v = .bl i ∧ d = .bl i := by
  rcases seen o h with ⟨p, rfl, rfl, ⟨ds', xs, _, e', hh, q⟩ | ⟨es, kvs, _, e', hh, q⟩ | ⟨C', fs', dx, gs, _, e', hh, q⟩ | ⟨_, e'⟩⟩ | ⟨n, e'⟩
  · rw [e] at e'; cases e'
  · rw [e] at e'; cases e'
  · rw [e] at e'; cases e'
  · rw [e] at e'; cases e'
  · rw [e] at e'
    subst e'
    exact ⟨isD_bl h, rfl⟩
theorem asNon (o : HeapOk K F M H) (h : IsD K F v d) (e : view M d = .non) : v = .non ∧ d = .non := by
  rcases seen o h with ⟨p, rfl, rfl, ⟨ds', xs, _, e', hh, q⟩ | ⟨es, kvs, _, e', hh, q⟩ | ⟨C', fs', dx, gs, _, e', hh, q⟩ | ⟨_, e'⟩⟩ | ⟨n, e'⟩
  · rw [e] at e'; cases e'
  · rw [e] at e'; cases e'
  · rw [e] at e'; cases e'
  · rw [e] at e'; cases e'
  · rw [e] at e'
    subst e'
    cases h; exact ⟨rfl, rfl⟩
theorem IsDs.emp {xs : List V} {ds : List D} (h : IsDs K F xs ds) : xs.isEmpty = ds.isEmpty := by cases h <;> rfl
theorem IsEs.emp {xs : List (Key × V)} {ds : List (Key × D)} (h : IsEs K F xs ds) : xs.isEmpty = ds.isEmpty := by cases h <;> rfl
end
section
variable {X : Cx} {G : XK} {a : Expr} {wa : DE} {pos : Pos}
theorem tru_lift {M : MS} {F H : Hp} {v : V} {d : D} {q : Bool → Prop} (o : HeapOk X.K F M H) (i : IsD X.K F v d) (h : truD M d q) : ∃ b, TruV X.K v H b ∧ q b := by
  unfold truD at h
  split at h
  · rename_i e; obtain ⟨rfl, _⟩ := asNon o i e; exact ⟨false, rfl, h⟩
  · rename_i b e; obtain ⟨rfl, _⟩ := asBl o i e; exact ⟨b, rfl, h⟩
  · rename_i b e; obtain ⟨rfl, _⟩ := asInt o i e; exact ⟨_, rfl, h⟩
  · rename_i b e; obtain ⟨rfl, _⟩ := asStr o i e; exact ⟨_, ⟨h.1, rfl⟩, h.2⟩
  · rename_i ds e; obtain ⟨p, xs, rfl, s, r⟩ := asLst o i e; exact ⟨_, .inl ⟨xs, .of s, by rw [r.emp]⟩, h⟩
  · rename_i ds e; obtain ⟨p, xs, rfl, s, r, _⟩ := asTup o i e; exact ⟨_, .inr (.inl ⟨xs, s, by rw [r.emp]⟩), h⟩
  · rename_i ds e; obtain ⟨p, kvs, rfl, s, r⟩ := asDct o i e; exact ⟨_, .inr (.inr ⟨kvs, s, by rw [r.emp]⟩), h⟩
  · exact h.elim
theorem xt_tru (ha : XE X G a wa) (he : ∀ whole, isTrue a X.env whole = (do let v ← whole; standAt a.pos; holding [v] (truthy v)) := by intro _; rfl) : XT X G a (wTru wa) :=
  PT.imp (pt_truth ha he) fun σ H Q ⟨ρ, F, M, x, k, a, q, kt⟩ => ⟨ρ, F, M, x, _, a, q, fun v d F1 M1 H1 g1 o1 i1 q1 => by
    obtain ⟨b, e, q2⟩ := tru_lift o1 i1 q1
    exact ⟨b, e, kt b F1 M1 H1 g1 o1 q2⟩⟩
end
end TV

set_option Elab.async false
set_option linter.all false
set_option maxRecDepth 100000
set_option maxHeartbeats 1000000
namespace TV
open PySem PySem.Spec PyProof.Rows L2

/-! ### statements -/
structure Et (K : PySem.W.Frag) (F : Hp) (M : MS) (H : Hp) (E : DEnds) (D : Ends) : Prop where
  nx : ∀ σ' ρ' F' M' H', Gr F M H F' M' H' → HeapOk K F' M' H' → EnvOk K F' σ' ρ' → E.nx ρ' M' → D.nx σ' H'
  rt : ∀ v d F' M' H', Gr F M H F' M' H' → HeapOk K F' M' H' → IsD K F' v d → E.rt d M' → D.rt v H'
  bk : ∀ σ' ρ' F' M' H', Gr F M H F' M' H' → HeapOk K F' M' H' → EnvOk K F' σ' ρ' → E.bk ρ' M' → D.bk σ' H'
  ct : ∀ σ' ρ' F' M' H', Gr F M H F' M' H' → HeapOk K F' M' H' → EnvOk K F' σ' ρ' → E.ct ρ' M' → D.ct σ' H'
theorem Et.step {K : PySem.W.Frag} {F F1 : Hp} {M M1 : MS} {H H1 : Hp} {E : DEnds} {D : Ends} (h : Et K F M H E D) (g : Gr F M H F1 M1 H1) : Et K F1 M1 H1 E D :=
  ⟨fun σ ρ F' M' H' g' => h.nx σ ρ F' M' H' (g.trans g'), fun v d F' M' H' g' => h.rt v d F' M' H' (g.trans g'), fun σ ρ F' M' H' g' => h.bk σ ρ F' M' H' (g.trans g'), fun σ ρ F' M' H' g' => h.ct σ ρ F' M' H' (g.trans g')⟩
def rS (K : PySem.W.Frag) (G : XK) (w : DS) : TS := fun D σ H => ∃ ρ F M x E, At K G σ ρ F M H x ∧ w E ρ M x ∧ Et K F M H E D
abbrev YS (X : Cx) (G : XK) (st : Stmt) (w : DS) : Prop := PS X st (rS X.K G w)
abbrev YSs (X : Cx) (G : XK) (st : List Stmt) (w : DS) : Prop := PSs X st (rS X.K G w)
def wNext : DS := fun E ρ M _ => E.nx ρ M
def wSeq (t u : DS) : DS := fun E ρ M x => t { E with nx := fun ρ' M' => u E ρ' M' x } ρ M x
def wDrop (w : DE) : DS := fun E ρ M x => w ρ M x fun _ M1 => E.nx ρ M1
def wRet (w : DE) : DS := fun E ρ M x => w ρ M x E.rt
def wRetN : DS := fun E _ M _ => E.rt .non M
def wIf (c : DT) (t u : DS) : DS := fun E ρ M x => c ρ M x fun b M1 => if b = true then t E ρ M1 x else u E ρ M1 x
abbrev DG := D → DSt → MS → (DSt → MS → Prop) → Prop
def wAsg (w : DE) (g : DG) : DS := fun E ρ M x => w ρ M x fun d M1 => g d ρ M1 fun ρ' M' => E.nx ρ' M'
def wSet (i : Nat) (w : DE) : DS := fun E ρ M x => w ρ M x fun d M1 => E.nx (ρ.set i (some d)) M1
section
variable {X : Cx} {G : XK} {st : Stmt} {rest : List Stmt} {w u : DS} {e : Expr} {we : DE} {pos : Pos}
theorem yss_nil : YSs X G [] wNext := PSs.imp pss_nil fun D σ H ⟨ρ, F, M, x, E, a, q, et⟩ => et.nx σ ρ F M H .refl a.heap a.env q
theorem yss_cons (h1 : YS X G st w) (h2 : YSs X G rest u) : YSs X G (st :: rest) (wSeq w u) :=
  PSs.imp (pss_cons h1 h2) fun D σ H ⟨ρ, F, M, x, E, a, q, et⟩ => ⟨ρ, F, M, x, _, a, q,
    ⟨fun σ' ρ' F' M' H' g o en z => ⟨ρ', F', M', x, E, ⟨en, o, a.xok.step g⟩, z, et.step g⟩, et.rt, et.bk, et.ct⟩⟩
theorem yss_one (h1 : YS X G st w) : YSs X G [st] w := pss_one h1
theorem ys_expr (he : XE X G e we) (hs : swapsWith e none pos.line X.env = pure false := by rfl) : YS X G (.Expr e pos) (wDrop we) :=
  PS.imp (ps_expr he hs) fun D σ H ⟨ρ, F, M, x, E, a, q, et⟩ => ⟨ρ, F, M, x, _, a, q, fun v d F1 M1 H1 g o i q1 => et.nx σ ρ F1 M1 H1 g o (a.env.mono g.ex) q1⟩
theorem ys_ret (he : XE X G e we) : YS X G (.Return (some e) pos) (wRet we) :=
  PS.imp (ps_ret he) fun D σ H ⟨ρ, F, M, x, E, a, q, et⟩ => ⟨ρ, F, M, x, _, a, q, fun v d F1 M1 H1 g o i q1 => et.rt v d F1 M1 H1 g o i q1⟩
theorem ys_retN : YS X G (.Return none pos) wRetN := PS.imp ps_retN fun D σ H ⟨ρ, F, M, x, E, a, q, et⟩ => et.rt .non .non F M H .refl a.heap .non q
theorem ys_pass : YS X G (.Pass pos) wNext := PS.imp ps_pass fun D σ H ⟨ρ, F, M, x, E, a, q, et⟩ => et.nx σ ρ F M H .refl a.heap a.env q
theorem ys_doc {s j pos pos'} : YS X G (.Expr (.Constant (.str s) j pos) pos') wNext := PS.imp ps_doc fun D σ H ⟨ρ, F, M, x, E, a, q, et⟩ => et.nx σ ρ F M H .refl a.heap a.env q
theorem ys_if {c : Expr} {a b : List Stmt} {tc : DT} (hc : XT X G c tc) (ha : YSs X G a w) (hb : YSs X G b u) : YS X G (.If c a b pos) (wIf tc w u) :=
  PS.imp (ps_if hc ha hb) fun D σ H ⟨ρ, F, M, x, E, a, q, et⟩ => ⟨ρ, F, M, x, _, a, q, fun b F1 M1 H1 g1 o1 q1 => by
    cases b with
    | true =>
      rw [if_pos rfl] at q1 ⊢
      exact ⟨ρ, F1, M1, x, E, a.step g1 o1, q1, et.step g1⟩
    | false =>
      rw [if_neg (by decide)] at q1 ⊢
      exact ⟨ρ, F1, M1, x, E, a.step g1 o1, q1, et.step g1⟩⟩
theorem ys_set {i : Nat} {x : Str} {e : Expr} {pos' : Pos} (hN : X.N.Nodup) (hi : X.N[i]? = some x) (hx : Loc X.env.scope x) (he : XE X G e we) (hs : swapsWith e (some (.Name x pos')) pos.line X.env = pure false := by rfl) (hf : X.fn x = true ∨ X.env.scope.names.lookup x = some .local := by first | exact .inl rfl | exact .inr rfl | assumption) :
    YS X G (.Assign [.Name x pos'] e pos) (wSet i we) :=
  PS.imp (ps_set hN hi hx he hs hf) fun D σ H ⟨ρ, F, M, x, E, a, q, et⟩ => ⟨ρ, F, M, x, _, a, q, fun v d F1 M1 H1 g1 o1 i1 q1 => et.nx _ _ F1 M1 H1 g1 o1 ((a.env.mono g1.ex).set i i1) q1⟩

/-! ### targets -/
def rG (K : PySem.W.Frag) (g : DG) : TG := fun v σ H Q => ∃ ρ F M d k, EnvOk K F σ ρ ∧ HeapOk K F M H ∧ IsD K F v d ∧ g d ρ M k ∧ ∀ σ' ρ' F' M' H', Gr F M H F' M' H' → HeapOk K F' M' H' → EnvOk K F' σ' ρ' → k ρ' M' → Q σ' H'
abbrev XG (X : Cx) (tg : Expr) (g : DG) : Prop := PG X tg (rG X.K g)
abbrev DGs := List D → DSt → MS → (DSt → MS → Prop) → Prop
def rGs (K : PySem.W.Frag) (g : DGs) : TGs := fun vs σ H Q => ∃ ρ F M ds k, EnvOk K F σ ρ ∧ HeapOk K F M H ∧ IsDs K F vs ds ∧ g ds ρ M k ∧ ∀ σ' ρ' F' M' H', Gr F M H F' M' H' → HeapOk K F' M' H' → EnvOk K F' σ' ρ' → k ρ' M' → Q σ' H'
abbrev XGs (X : Cx) (tgs : List Expr) (g : DGs) : Prop := PGs X tgs (rGs X.K g)
theorem PG.imp {X : Cx} {e : Expr} {t t' : TG} (h : PG X e t) (f : ∀ v σ H Q, t' v σ H Q → t v σ H Q) : PG X e t' := ⟨fun pins s σ H v u Q I r q => h.run pins s σ H v u Q I r (f v σ H Q q)⟩
theorem PGs.imp {X : Cx} {e : List Expr} {t t' : TGs} (h : PGs X e t) (f : ∀ v σ H Q, t' v σ H Q → t v σ H Q) : PGs X e t' := ⟨fun pins s σ H v u Q I r q => h.run pins s σ H v u Q I r (f v σ H Q q)⟩
def wgName (i : Nat) : DG := fun d ρ M k => k (ρ.set i (some d)) M
theorem xg_name {i : Nat} {x : Str} (hN : X.N.Nodup) (hi : X.N[i]? = some x) (hx : Loc X.env.scope x) (hf : X.fn x = true ∨ X.env.scope.names.lookup x = some .local := by first | exact .inl rfl | exact .inr rfl | assumption) : XG X (.Name x pos) (wgName i) :=
  PG.imp (pg_name hN hi hx hf) fun v σ H Q ⟨ρ, F, M, d, k, en, o, i1, q, kt⟩ => kt _ _ F M H .refl o (en.set i i1) q
def wgNil : DGs := fun ds ρ M k => ds = [] ∧ k ρ M
def wgCons (g : DG) (gs : DGs) : DGs := fun ds ρ M k => ∃ d r, ds = d :: r ∧ g d ρ M fun ρ' M' => gs r ρ' M' k
theorem xgs_nil : XGs X [] wgNil := PGs.imp pgs_nil fun v σ H Q ⟨ρ, F, M, d, k, en, o, i1, ⟨e, q⟩, kt⟩ => by
  subst e
  cases i1
  exact ⟨rfl, kt _ _ F M H .refl o en q⟩
theorem xgs_cons {e : Expr} {es : List Expr} {g : DG} {gs : DGs} (h1 : XG X e g) (h2 : XGs X es gs)
    (hs : (assignEach (e :: es) X.env).map (·.2) = assign e X.env :: (assignEach es X.env).map (·.2) := by rfl) : XGs X (e :: es) (wgCons g gs) :=
  PGs.imp (pgs_cons h1 h2 hs) fun v σ H Q ⟨ρ, F, M, ds, k, en, o, i1, ⟨d, r, e, q⟩, kt⟩ => by
    subst e
    cases i1 with
    | cons i1 ir =>
      exact ⟨_, _, rfl, ρ, F, M, d, _, en, o, i1, q, fun σ' ρ' F' M' H' g' o' en' q' => ⟨ρ', F', M', r, k, en', o', ir.mono g'.ex, q', fun σ2 ρ2 F2 M2 H2 g2 => kt σ2 ρ2 F2 M2 H2 (g'.trans g2)⟩⟩
def wgTup (n : Nat) (gs : DGs) : DG := fun d ρ M k => ∃ ds, d = .tup ds ∧ ds.length = n ∧ gs ds ρ M k
theorem xg_tup {es : List Expr} {j : Nat} {gs : DGs} {n : Nat} (hc : X.calm = true) (h : XGs X es gs)
    (hn : (assignEach es X.env).length = n := by rfl) (hst : (assignEach es X.env).findIdx? (·.1) = none := by rfl) : XG X (.Tuple es j pos) (wgTup n gs) :=
  PG.imp (pg_tup hc h hn hst) fun v σ H Q ⟨ρ, F, M, d, k, en, o, i1, ⟨ds, e, hl, q⟩, kt⟩ => by
    subst e
    cases i1 with
    | tup s r => exact ⟨_, _, rfl, sqt_mono o.sub s, by rw [r.len]; exact hl, ρ, F, M, ds, k, en, o, r, q, kt⟩
theorem ys_asg {tg e : Expr} {g : DG} (he : XE X G e we) (hg : XG X tg g) (hs : swapsWithSole [tg] e pos.line X.env = pure false := by rfl) (hw : swappedStores [tg] e X.env = pure none := by rfl)
    (h1 : (assignEach [tg] X.env).map (·.2) = [assign tg X.env] := by rfl) : YS X G (.Assign [tg] e pos) (wAsg we g) :=
  PS.imp (ps_asg he hg hs hw h1) fun D σ H ⟨ρ, F, M, x, E, a, q, et⟩ => ⟨ρ, F, M, x, _, a, q, fun v d F1 M1 H1 g1 o1 i1 q1 =>
    ⟨ρ, F1, M1, d, _, a.env.mono g1.ex, o1, i1, q1, fun σ' ρ' F' M' H' g' o' en' z => et.nx σ' ρ' F' M' H' (g1.trans g') o' en' z⟩⟩
/-- a, b = x, y with plain local names -/
def wPar (i j : Nat) (wa : DA) : DS := fun E ρ M x => wa ρ M x fun ds M1 => ∃ d e, ds = [d, e] ∧ E.nx ((ρ.set i (some d)).set j (some e)) M1
theorem ys_par {i j : Nat} {x y : Str} {a b : Expr} {wa : DA} {px py pt : Pos} {kt k2 pt2} (hc : X.calm = true) (hN : X.N.Nodup) (hi : X.N[i]? = some x) (hj : X.N[j]? = some y) (hij : i ≠ j)
    (hx : X.env.scope.names.lookup x = some .local) (hy : X.env.scope.names.lookup y = some .local) (ha : XA X G [a, b] wa)
    (hw : swappedStores [.Tuple [.Name x px, .Name y py] kt pt] (.Tuple [a, b] k2 pt2) X.env = pure (some [x, y]))
    (hs : swapsWithSole [.Tuple [.Name x px, .Name y py] kt pt] (.Tuple [a, b] k2 pt2) pos.line X.env = pure false := by rfl) :
    YS X G (.Assign [.Tuple [.Name x px, .Name y py] kt pt] (.Tuple [a, b] k2 pt2) pos) (wPar i j wa) :=
  PS.imp (ps_par hc hN hi hj hij hx hy ha hw hs) fun D σ H ⟨ρ, F, M, x, E, a, q, et⟩ => ⟨ρ, F, M, x, _, a, q, fun vs ds F1 M1 H1 g1 o1 i1 ⟨d, e, hd, q1⟩ => by
    subst hd
    cases i1 with
    | cons h1 i1 => cases i1 with
      | cons h2 i1 =>
        cases i1
        exact ⟨_, _, rfl, et.nx _ _ F1 M1 H1 g1 o1 (((a.env.mono g1.ex).set i h1).set j h2) q1⟩⟩
end

/-! ### new lists, tuples -/
def wTup (w : DA) : DE := fun ρ M x k => w ρ M x fun ds M1 => ds.length ≤ 100000 ∧ k (.tup ds) M1
/-- a list that none changes -/
def wFrz (w : DA) : DE := fun ρ M x k => w ρ M x fun ds M1 => k (.lst ds) M1
/-- a list for the store -/
def wMut (w : DA) : DE := fun ρ M x k => w ρ M x fun ds M1 => ∀ p, M1 p = none → k (.obj p) (updM M1 p (.lst ds))
def wDisp (w : DA) : DA := fun ρ M x k => w ρ M x fun ds M1 => ds.length ≤ 100000 ∧ k ds M1
theorem sz5 {n : Nat} (h : n ≤ 100000) : n ≤ sizeLine := Nat.le_trans h (by decide)
section
variable {X : Cx} {G : XK} {e : Expr} {es : List Expr} {w : DA} {pos : Pos}
theorem xe_tup {k1} (h : XA X G es w) : XE X G (.Tuple es k1 pos) (wTup w) :=
  PE.imp (pe_tup h) fun σ H Q ⟨ρ, F, M, x, k, a, q, kt⟩ => ⟨ρ, F, M, x, _, a, q, fun vs ds F1 M1 H1 g1 o1 i1 ⟨hl, q1⟩ =>
    ⟨by rw [i1.len]; exact sz5 hl, fun p hp => kt _ _ (upd F1 p (.tup vs)) M1 _ (g1.trans (Gr.frz (o1.noF hp) hp)) (o1.frz hp) (.tup (.of upd_same) (i1.mono (Same.upd (o1.noF hp)))) q1⟩⟩
theorem xl_lst (h : XA X G es w) : XL X G (.List es pos) (wDisp w) :=
  PE.imp (pe_lst h) fun σ H Q ⟨ρ, F, M, x, k, a, q, kt⟩ => ⟨ρ, F, M, x, _, a, q, fun vs ds F1 M1 H1 g1 o1 i1 ⟨hl, q1⟩ =>
    ⟨by rw [i1.len]; exact sz5 hl, fun p hp => kt p vs ds F1 M1 _ (g1.trans (Gr.newU hp)) (o1.newU hp) (by
      cases e : H p with
      | none => rfl
      | some u => exact absurd hp (g1.dom p (by rw [e]; simp))) upd_same (o1.noF hp) (o1.noM hp) i1 q1⟩⟩
theorem Gr.adopt {F F1 : Hp} {M M1 : MS} {H H1 : Hp} {p : Addr} {o : HO} (g : Gr F M H F1 M1 H1) (hp : H p = none) (nf : F1 p = none) : Gr F M H (upd F1 p o) M1 H1 :=
  ⟨g.ex.trans (Same.upd nf), fun b z => by
    by_cases y : b = p
    · subst y; exact .inr (.inr hp)
    · rw [upd_ne y] at z; exact g.fz b z, g.mu, g.fr, g.dom⟩
theorem Gr.adoptM {F F1 : Hp} {M M1 : MS} {H H1 : Hp} {p : Addr} {m : MO} (g : Gr F M H F1 M1 H1) (hp : H p = none) : Gr F M H F1 (updM M1 p m) H1 :=
  ⟨g.ex, g.fz, fun b z => by
    by_cases y : b = p
    · subst y; exact .inr hp
    · rw [updM_ne y] at z; exact g.mu b z, g.fr, g.dom⟩
theorem fromS {K : PySem.W.Frag} {F F1 : Hp} {M M1 : MS} {H H1 : Hp} {p : Addr} (g : Gr F M H F1 M1 H1) (o : HeapOk K F M H) (hp : H p = none) : p ≠ sysModules := o.noS hp
theorem xl_frz (h : XL X G e w) : XE X G e (wFrz w) :=
  PE.imp h fun σ H Q ⟨ρ, F, M, x, k, a, q, kt⟩ => ⟨ρ, F, M, x, _, a, q, fun p vs ds F1 M1 H1 g1 o1 hp e1 f1 m1 i1 q1 =>
    kt _ _ (upd F1 p (.lst vs)) M1 H1 (g1.adopt hp f1) (o1.take e1 f1 m1 (fromS g1 a.heap hp)) (.lst upd_same (i1.mono (Same.upd f1))) q1⟩
theorem xl_mut (h : XL X G e w) : XE X G e (wMut w) :=
  PE.imp h fun σ H Q ⟨ρ, F, M, x, k, a, q, kt⟩ => ⟨ρ, F, M, x, _, a, q, fun p vs ds F1 M1 H1 g1 o1 hp e1 f1 m1 i1 q1 =>
    kt _ _ F1 (updM M1 p (.lst ds)) H1 (g1.adoptM hp) (o1.takeM e1 f1 (.lst i1) (fromS g1 a.heap hp)) .obj (q1 p m1)⟩
theorem fresh0 {F : Hp} {M : MS} {H F1 H1 : Hp} {M1 : MS} (g : Gr F M H F1 M1 H1) {p : Addr} (n : H1 p = none) : H p = none := by
  cases e : H p with
  | none => rfl
  | some u => exact absurd n (g.dom p (by rw [e]; simp))
/-- a name's thing in the store, given away: from here on it is as it is -/
def wMelt (i : Nat) : DE := fun ρ M _ k => ∃ p, ρ[i]? = some (some (.obj p)) ∧ ((∃ ds, M p = some (.lst ds) ∧ k (.lst ds) (delM M p)) ∨ (∃ es, M p = some (.dct es) ∧ k (.dct es) (delM M p)) ∨ ∃ C fs, M p = some (.ins C fs) ∧ k (.ins C fs) (delM M p))
theorem xmelt (i : Nat) {x : Str} {pos : Pos} (hN : X.N[i]? = some x := by rfl) (hv : Vis X.env.scope x := by first | exact Or.inl rfl | exact Or.inr (Or.inl rfl) | exact Or.inr (Or.inr rfl)) (hd : (x == ("__debug__" : Str)) = false := by decide)
    (hcd : (x == ("__classdict__" : Str)) = false := by decide) : XE X G (.Name x pos) (wMelt i) :=
  PE.imp (pe_var hN hv hd hcd) fun σ H Q ⟨ρ, F, M, x, k, a, ⟨p, e, q⟩, kt⟩ => by
    obtain ⟨v, ev, hv⟩ := a.env.at_ i _ e
    cases hv
    refine ⟨_, ev, ?_⟩
    rcases q with ⟨ds, em, q⟩ | ⟨es, em, q⟩ | ⟨C, fs, em, q⟩
    · obtain ⟨nf, o, eo, mo⟩ := a.heap.mu p _ em
      cases mo with
      | lst r => exact kt _ _ (upd F p (.lst _)) (delM M p) H (.melt nf em) (a.heap.melt em eo) (.lst upd_same (r.mono (Same.upd nf))) q
    · obtain ⟨nf, o, eo, mo⟩ := a.heap.mu p _ em
      cases mo with
      | dct r => exact kt _ _ (upd F p (.dK _)) (delM M p) H (.melt nf em) (a.heap.melt em eo) (.dct upd_same (r.mono (Same.upd nf))) q
    · obtain ⟨nf, o, eo, mo⟩ := a.heap.mu p _ em
      cases mo with
      | ins r => exact kt _ _ (upd F p (.ins _ _ _)) (delM M p) H (.melt nf em) (a.heap.melt em eo) (.ins upd_same (r.mono (Same.upd nf))) q
end

/-! ### calls of one's own defs -/
/-- a def's promise over trees -/
abbrev DSp := List D → MS → XD → KD → Prop
def rSp (K : PySem.W.Frag) (sp : DSp) : Sp := fun vs H Q E => ∃ ds F M x k, HeapOk K F M H ∧ IsDs K F vs ds ∧ sp ds M x k ∧ Kt K F M H k Q ∧ XOk K E F M H x
def wCall (sp : DSp) (w : DA) : DE := fun ρ M x k => w ρ M x fun ds M1 => sp ds M1 x k
section
variable {X : Cx} {CX : CXT} {G : XK} {k : Nat} {f : Addr} {fd : FuncData} {ps : List Str} {sp : DSp} {x : Str} {p pos : Pos} {e : Expr} {es : List Expr} {w : DA}
theorem xe_call (F : FnOk X.prog X.w X.K X.mg X.base CX k f fd ps (rSp X.K sp)) (hr : Room k X.A) (hg : Gl X x) (hm : X.mg x = some (.ref f)) (hk : PySem.W.keepIn X.K (.ref f) = true) (hb : Binds X.K fd ps []) (hx : Passes CX X G)
    (ha : XA X G (e :: es) w) (hdb : (x == ("__debug__" : Str)) = false := by decide) (he : starEach (e :: es) X.env = (false, eval e X.env) :: starEach es X.env := by rfl) (hpl : (backTo pos (starEach es X.env)).any (·.1) = false := by rfl) :
    XE X G (.Call (.Name x p) (e :: es) [] pos) (wCall sp w) :=
  PE.imp (pe_call F hr hg hm hk hb .nil hx ha hdb he hpl) fun σ H Q ⟨ρ, F, M, x, k, a, q, kt⟩ => ⟨ρ, F, M, x, _, a, q, fun vs ds F1 M1 H1 g1 o1 i1 q1 => by
    show rSp X.K sp (vs ++ []) H1 Q G
    rw [List.append_nil]
    exact ⟨ds, F1, M1, x, k, o1, i1, q1, fun v d F2 M2 H2 g2 => kt v d F2 M2 H2 (g1.trans g2), a.xok.step g1⟩⟩
/-- .. with values for the parameters that are left out -/
theorem xe_callD {dvs : List V} {dds : List D} {us : List Value} (F : FnOk X.prog X.w X.K X.mg X.base CX k f fd ps (rSp X.K sp)) (hr : Room k X.A) (hg : Gl X x) (hm : X.mg x = some (.ref f)) (hk : PySem.W.keepIn X.K (.ref f) = true) (hb : Binds X.K fd ps us) (hd : Vals dvs us) (hdd : ∀ F, IsDs X.K F dvs dds) (hx : Passes CX X G)
    (ha : XA X G (e :: es) w) (hdb : (x == ("__debug__" : Str)) = false := by decide) (he : starEach (e :: es) X.env = (false, eval e X.env) :: starEach es X.env := by rfl) (hpl : (backTo pos (starEach es X.env)).any (·.1) = false := by rfl) :
    XE X G (.Call (.Name x p) (e :: es) [] pos) (wCall (fun ds => sp (ds ++ dds)) w) :=
  PE.imp (pe_call F hr hg hm hk hb hd hx ha hdb he hpl) fun σ H Q ⟨ρ, F, M, x, k, a, q, kt⟩ => ⟨ρ, F, M, x, _, a, q, fun vs ds F1 M1 H1 g1 o1 i1 q1 =>
    ⟨ds ++ dds, F1, M1, x, k, o1, i1.app (hdd F1), q1, fun v d F2 M2 H2 g2 => kt v d F2 M2 H2 (g1.trans g2), a.xok.step g1⟩⟩
end
/-- the slots at the start -/
def start0 (N : List Str) (ds : List D) : DSt := ds.map some ++ List.replicate (N.length - ds.length) none
section
variable {P : Program} {w : World} {K : PySem.W.Frag} {mg : Str → Option Value} {base : Heap}
theorem start_env {F : Hp} {N : List Str} {vs : List V} {ds : List D} (h : IsDs K F vs ds) (hl : ds.length ≤ N.length) : EnvOk K F (L2.start N vs) (start0 N ds) := by
  unfold L2.start start0
  refine ⟨by simp [h.len], fun i d e => ?_⟩
  by_cases hi : i < ds.length
  · rw [List.getElem?_append_left (by simpa using hi)] at e
    rw [List.getElem?_map] at e
    cases q : ds[i]? with
    | none => rw [q] at e; simp at e
    | some d' =>
      rw [q] at e
      simp at e
      subst e
      obtain ⟨v, ev, hv⟩ := h.get i q
      refine ⟨v, ?_, hv⟩
      rw [List.getElem?_append_left (by simpa [h.len] using hi), List.getElem?_map, ev]
      rfl
  · rw [List.getElem?_append_right (by simpa using hi)] at e
    rw [List.getElem?_replicate] at e
    split at e <;> simp at e
/-- THE RULE for a def whose body lets no exception out -/
theorem fnD {x qual : Str} {st : Stmt} {f : Addr} {fd : FuncData} {N ps : List Str} {k : Nat} {sp : DSp} (F : Fun K x qual st f fd) (S : FnScope N ps (defScope st)) (len : ∀ ds M x k, sp ds M x k → ds.length = ps.length)
    (hN : ps.length ≤ N.length)
    (hbody : ∀ (cdv : Value) (A : Around) (outer : List Env) (s : Shared) (H : Hp) (E : XK), Room k (A.deeper (envOfC qual (defScope st) s.heap.objs.size f cdv)) →
      ∃ w', YSs (cxOf CX0 P w K mg base N qual (defScope st) f cdv A outer s H E).nox E0 (defBody st) w' ∧
        ∀ ds M kk, sp ds M (fun _ _ _ => False) kk → w' { nx := fun _ M => kk .non M, rt := kk } (start0 N ds) M (fun _ _ _ => False))
    (hX : ∀ ds M x kk, sp ds M x kk → sp ds M (fun _ _ _ => False) kk) :
    FnOk P w K mg base CX0 (k + 1) f fd ps (rSp K sp) := by
  refine F.ok S (fun vs H Q E h => ?_) (fun cdv A outer s H vs Q E hr h => ?_)
  · obtain ⟨ds, F, M, x, kk, o, i, q, _⟩ := h
    rw [i.len]; exact len _ _ _ _ q
  · obtain ⟨w', hw, hq⟩ := hbody cdv A outer s H E hr
    refine ⟨_, hw, ?_⟩
    obtain ⟨ds, F, M, x, kk, o, i, q, kt, xo⟩ := h
    refine ⟨start0 N ds, F, M, _, _, ⟨start_env i (by rw [len _ _ _ _ q]; exact hN), o, fun _ _ _ _ _ _ _ _ _ _ _ z => z.elim⟩, hq ds M kk (hX _ _ _ _ q), ⟨fun σ' ρ' F' M' H' g o' en z => ?_, fun v d F' M' H' g o' i' z => kt v d F' M' H' g o' i' z, fun _ _ _ _ _ _ _ _ z => z.elim, fun _ _ _ _ _ _ _ _ z => z.elim⟩⟩
    exact kt .non .non F' M' H' g o' .non z
end

/-! ### calls of what is built in -/
abbrev OC := MS → List D → (D → Prop) → Prop
def LiftsC (K : PySem.W.Frag) (oc : OC) (r : List V → Hp → VK → Prop) : Prop := ∀ F M H vs ds (q : D → Prop) (Q : VK), HeapOk K F M H → IsDs K F vs ds → oc M ds q →
  (∀ w c F' H', Gr F M H F' M H' → HeapOk K F' M H' → IsD K F' w c → q c → Q w H') → r vs H Q
def wCB (oc : OC) (w : DA) : DE := fun ρ M x k => w ρ M x fun ds M1 => oc M1 ds fun d => k d M1
section
variable {X : Cx} {G : XK} {x : Str} {p pos : Pos} {e : Expr} {es : List Expr} {w : DA} {id : String} {r : List V → Hp → VK → Prop} {oc : OC}
theorem xe_callB (hr : CallR X (.builtin id) r) (l : LiftsC X.K oc r) (hg : Gl X x) (hm : X.mg x = none) (hv : bootBuiltins x = some (.builtin id)) (ha : XA X G (e :: es) w) (hn : x ≠ "__name__" := by decide)
    (hdb : (x == ("__debug__" : Str)) = false := by decide) (he : starEach (e :: es) X.env = (false, eval e X.env) :: starEach es X.env := by rfl) (hpl : (backTo pos (starEach es X.env)).any (·.1) = false := by rfl) :
    XE X G (.Call (.Name x p) (e :: es) [] pos) (wCB oc w) :=
  PE.imp (pe_callB hr hg hm hv ha hn hdb he hpl) fun σ H Q ⟨ρ, F, M, x, k, a, q, kt⟩ => ⟨ρ, F, M, x, _, a, q, fun vs ds F1 M1 H1 g1 o1 i1 q1 =>
    l F1 M1 H1 vs ds _ _ o1 i1 q1 fun w c F' H' g o i z => kt w c F' M1 H' (g1.trans g) o i z⟩
theorem xe_callTy (hr : CallR X (.type id) r) (l : LiftsC X.K oc r) (hg : Gl X x) (hm : X.mg x = none) (hv : bootBuiltins x = some (.type id)) (ha : XA X G (e :: es) w) (hn : x ≠ "__name__" := by decide)
    (hdb : (x == ("__debug__" : Str)) = false := by decide) (he : starEach (e :: es) X.env = (false, eval e X.env) :: starEach es X.env := by rfl) (hpl : (backTo pos (starEach es X.env)).any (·.1) = false := by rfl) :
    XE X G (.Call (.Name x p) (e :: es) [] pos) (wCB oc w) :=
  PE.imp (pe_callTy hr hg hm hv ha hn hdb he hpl) fun σ H Q ⟨ρ, F, M, x, k, a, q, kt⟩ => ⟨ρ, F, M, x, _, a, q, fun vs ds F1 M1 H1 g1 o1 i1 q1 =>
    l F1 M1 H1 vs ds _ _ o1 i1 q1 fun w c F' H' g o i z => kt w c F' M1 H' (g1.trans g) o i z⟩
end
end TV

set_option Elab.async false
set_option linter.all false
set_option maxRecDepth 100000
set_option maxHeartbeats 1000000
namespace TV
open PySem PySem.Spec PyProof.Rows L2

theorem Gr.setU {F F1 : Hp} {M M1 : MS} {H H1 : Hp} {p : Addr} {o : HO} (g : Gr F M H F1 M1 H1) (hp : H p = none) : Gr F M H F1 M1 (upd H1 p o) :=
  ⟨g.ex, g.fz, g.mu, fun a u e f m => by rw [upd_ne (ne_of_none e hp)]; exact g.fr a u e f m, fun a e => by
    by_cases y : a = p
    · subst y; exact absurd hp e
    · rw [upd_ne y]; exact g.dom a e⟩

/-! ### what is walked -/
structure Walks (K : PySem.W.Frag) (J : It) (ds : List D) (stay : MS → Prop) (F0 : Hp) : Prop where
  go : ∀ i F M H, Same F0 F → HeapOk K F M H → stay M → i < ds.length → J.go i H
  stop : ∀ F M H, Same F0 F → HeapOk K F M H → stay M → J.stop ds.length H
  yld : ∀ i F M H x H', Same F0 F → HeapOk K F M H → stay M → i < ds.length → J.yld i H x H' → ∃ F' d, Gr F M H F' M H' ∧ HeapOk K F' M H' ∧ IsD K F' x d ∧ ds[i]? = some d
abbrev DI := DSt → MS → XD → (List D → (MS → Prop) → MS → Prop) → Prop
def rI (K : PySem.W.Frag) (G : XK) (w : DI) : TI := fun σ H R => ∃ ρ F M x k, At K G σ ρ F M H x ∧ w ρ M x k ∧ ∀ J ds stay F' M' H', Gr F M H F' M' H' → HeapOk K F' M' H' → Walks K J ds stay F' → k ds stay M' → R J H'
abbrev XI (X : Cx) (G : XK) (tg iter : Expr) (w : DI) : Prop := PI X tg iter (rI X.K G w)
theorem PI.imp {X : Cx} {tg e : Expr} {t t' : TI} (h : PI X tg e t) (f : ∀ σ H R, t' σ H R → t σ H R) : PI X tg e t' := ⟨fun pins s σ H R I q => h.run pins s σ H R I (f σ H R q)⟩

/-- signs as texts -/
def signs (s : Str) : List D := s.cps.toList.map fun c => .str ⟨#[c]⟩
section
variable {K : PySem.W.Frag} {F F0 : Hp} {M : MS} {H : Hp}
theorem walks_list {a : Addr} {ds : List D} {stay : MS → Prop} (h : ∀ F M H, Same F0 F → HeapOk K F M H → stay M → ∃ xs, SqL K H a xs ∧ IsDs K F xs ds) : Walks K (Itl K a) ds stay F0 where
  go := fun i F M H e o s hi => by
    obtain ⟨xs, q, r⟩ := h F M H e o s
    exact ⟨xs, xs[i]'(by rw [r.len]; exact hi), q, by simp [r.len, hi]⟩
  stop := fun F M H e o s => by
    obtain ⟨xs, q, r⟩ := h F M H e o s
    exact ⟨xs, q, by rw [r.len]; exact Nat.le_refl _⟩
  yld := fun i F M H x H' e o s hi y => by
    obtain ⟨xs, q, r⟩ := h F M H e o s
    obtain ⟨rfl, y⟩ := y
    obtain ⟨d, ed, hd⟩ := r.getV i (y xs q)
    exact ⟨F, d, .refl, o, hd, ed⟩
theorem walks_tup {a : Addr} {ds : List D} {stay : MS → Prop} (h : ∀ F M H, Same F0 F → HeapOk K F M H → stay M → ∃ xs, SqT K H a xs ∧ IsDs K F xs ds) : Walks K (Itt K a) ds stay F0 where
  go := fun i F M H e o s hi => by
    obtain ⟨xs, q, r⟩ := h F M H e o s
    exact ⟨xs, xs[i]'(by rw [r.len]; exact hi), q, by simp [r.len, hi]⟩
  stop := fun F M H e o s => by
    obtain ⟨xs, q, r⟩ := h F M H e o s
    exact ⟨xs, q, by rw [r.len]; exact Nat.le_refl _⟩
  yld := fun i F M H x H' e o s hi y => by
    obtain ⟨xs, q, r⟩ := h F M H e o s
    obtain ⟨rfl, y⟩ := y
    obtain ⟨d, ed, hd⟩ := r.getV i (y xs q)
    exact ⟨F, d, .refl, o, hd, ed⟩
theorem walks_str {z : Str} {stay : MS → Prop} : Walks K (Its z) (signs z) stay F0 where
  go := fun i F M H e o s hi => by simpa [signs, Its] using hi
  stop := fun F M H e o s => by simp [signs, Its]
  yld := fun i F M H x H' e o s hi y => by
    obtain ⟨rfl, c, ec, rfl⟩ := y
    refine ⟨F, .str ⟨#[c]⟩, .refl, o, .str, ?_⟩
    unfold signs
    rw [List.getElem?_map, Array.getElem?_toList, ec]
    rfl
theorem walks_range {lo : Int} {n : Nat} {stay : MS → Prop} : Walks K (Itr lo n) ((List.range n).map fun (i : Nat) => D.int (lo + (i : Int))) stay F0 where
  go := fun i F M H e o s hi => by simpa [Itr] using hi
  stop := fun F M H e o s => by simp [Itr]
  yld := fun i F M H x H' e o s hi y => by
    obtain ⟨rfl, rfl⟩ := y
    have hi' : i < n := by simpa using hi
    exact ⟨F, _, .refl, o, .int, by rw [List.getElem?_map, List.getElem?_range hi']; rfl⟩
end
section
variable {X : Cx} {G : XK} {tg e a b : Expr} {we : DE} {wa : DA} {p pos : Pos}
/-- over a list -/
def wiL (w : DE) : DI := fun ρ M x k => w ρ M x fun d M1 => ∃ ds, view M1 d = .lst ds ∧ k ds (fun M2 => view M2 d = .lst ds) M1
theorem xi_list (h : XE X G e we) : XI X G tg e (wiL we) :=
  PI.imp (pi_list h) fun σ H R ⟨ρ, F, M, x, k, a, q, kt⟩ => ⟨ρ, F, M, x, _, a, q, fun v d F1 M1 H1 g1 o1 i1 ⟨ds, e, q1⟩ => by
    obtain ⟨p, xs, rfl, s, r⟩ := asLst o1 i1 e
    exact ⟨p, rfl, ⟨xs, .of s⟩, kt _ _ _ F1 M1 H1 g1 o1 (walks_list fun F M H e' o' st => by
      obtain ⟨p', xs', ep, s', r'⟩ := asLst o' (i1.mono e') st
      cases ep
      exact ⟨xs', .of s', r'⟩) q1⟩⟩
def wiT (w : DE) : DI := fun ρ M x k => w ρ M x fun d M1 => ∃ ds, d = .tup ds ∧ k ds (fun _ => True) M1
theorem xi_tup (h : XE X G e we) : XI X G tg e (wiT we) :=
  PI.imp (pi_tup h) fun σ H R ⟨ρ, F, M, x, k, a, q, kt⟩ => ⟨ρ, F, M, x, _, a, q, fun v d F1 M1 H1 g1 o1 i1 ⟨ds, e, q1⟩ => by
    subst e
    obtain ⟨p, xs, rfl, s, r, _⟩ := asTup o1 i1 rfl
    exact ⟨p, rfl, ⟨xs, s⟩, kt _ _ _ F1 M1 H1 g1 o1 (walks_tup fun F M H e' o' st => by
      obtain ⟨p', xs', ep, s', r', _⟩ := asTup o' (i1.mono e') rfl
      cases ep
      exact ⟨xs', s', r'⟩) q1⟩⟩
def wiS (w : DE) : DI := fun ρ M x k => w ρ M x fun d M1 => ∃ z, d = .str z ∧ k (signs z) (fun _ => True) M1
theorem xi_str (h : XE X G e we) : XI X G tg e (wiS we) :=
  PI.imp (pi_str h) fun σ H R ⟨ρ, F, M, x, k, a, q, kt⟩ => ⟨ρ, F, M, x, _, a, q, fun v d F1 M1 H1 g1 o1 i1 ⟨z, e, q1⟩ => by
    subst e
    exact ⟨z, isD_str i1, kt _ _ _ F1 M1 H1 g1 o1 walks_str q1⟩⟩
def rng (lo : Int) (n : Nat) : List D := (List.range n).map fun (i : Nat) => D.int (lo + (i : Int))
def wiR1 (w : DA) : DI := fun ρ M x k => w ρ M x fun ds M1 => ∃ j, ds = [.int j] ∧ -(2 ^ 62) ≤ j ∧ j < 2 ^ 62 ∧ k (rng 0 j.toNat) (fun _ => True) M1
theorem isDs1 {K : PySem.W.Frag} {F : Hp} {vs : List V} {d : D} (h : IsDs K F vs [d]) : ∃ v, vs = [v] ∧ IsD K F v d := by
  cases h with
  | cons h r => cases r; exact ⟨_, rfl, h⟩
theorem isDs2 {K : PySem.W.Frag} {F : Hp} {vs : List V} {d e : D} (h : IsDs K F vs [d, e]) : ∃ v u, vs = [v, u] ∧ IsD K F v d ∧ IsD K F u e := by
  cases h with
  | cons h r =>
    obtain ⟨u, rfl, hu⟩ := isDs1 r
    exact ⟨_, _, rfl, h, hu⟩
theorem xi_range1 (hg : Gl X "range") (hm : X.mg "range" = none) (ha : XA X G [a] wa) (hs : starEach [a] X.env = [(false, eval a X.env)] := by rfl) : XI X G tg (.Call (.Name "range" p) [a] [] pos) (wiR1 wa) :=
  PI.imp (pi_range1 hg hm ha hs) fun σ H R ⟨ρ, F, M, x, k, a, q, kt⟩ => ⟨ρ, F, M, x, _, a, q, fun vs ds F1 M1 H1 g1 o1 i1 ⟨j, e, h1, h2, q1⟩ => by
    subst e
    obtain ⟨v, rfl, hv⟩ := isDs1 i1
    obtain rfl := isD_int hv
    exact ⟨j, rfl, h1, h2, kt _ _ _ F1 M1 H1 g1 o1 walks_range q1⟩⟩
def wiR2 (w : DA) : DI := fun ρ M x k => w ρ M x fun ds M1 => ∃ i j, ds = [.int i, .int j] ∧ (-(2 ^ 62) ≤ i ∧ i < 2 ^ 62 ∧ -(2 ^ 62) ≤ j ∧ j < 2 ^ 62) ∧ k (rng i (j - i).toNat) (fun _ => True) M1
theorem xi_range2 (hg : Gl X "range") (hm : X.mg "range" = none) (ha : XA X G [a, b] wa) (hs : starEach [a, b] X.env = [(false, eval a X.env), (false, eval b X.env)] := by rfl) (hs2 : starEach [b] X.env = [(false, eval b X.env)] := by rfl) : XI X G tg (.Call (.Name "range" p) [a, b] [] pos) (wiR2 wa) :=
  PI.imp (pi_range2 hg hm ha hs hs2) fun σ H R ⟨ρ, F, M, x, k, a, q, kt⟩ => ⟨ρ, F, M, x, _, a, q, fun vs ds F1 M1 H1 g1 o1 i1 ⟨i, j, e, h1, q1⟩ => by
    subst e
    obtain ⟨v, u, rfl, hv, hu⟩ := isDs2 i1
    obtain rfl := isD_int hv
    obtain rfl := isD_int hu
    exact ⟨i, j, rfl, h1, kt _ _ _ F1 M1 H1 g1 o1 walks_range q1⟩⟩

/-! ### for -/
def wFor (wi : DI) (g : DG) (tb : DS) : DS := fun E ρ M x => wi ρ M x fun ds stay M1 => ∃ Pv : Nat → DSt → MS → Prop, Pv 0 ρ M1 ∧
  (∀ i d ρ' M', ds[i]? = some d → Pv i ρ' M' → stay M' ∧ g d ρ' M' fun ρ2 M2 => tb { E with nx := Pv (i + 1), ct := Pv (i + 1), bk := E.nx } ρ2 M2 x) ∧ ∀ ρ' M', Pv ds.length ρ' M' → stay M' ∧ E.nx ρ' M'
theorem ys_for {iter : Expr} {body : List Stmt} {wi : DI} {g : DG} {tb : DS} (hp : PassesOwn (model X.prog X.w) X.A X.env X.xe) (hc : X.calm = true) (hi : XI X G tg iter wi) (hg : XG X tg g) (hb : YSs X G body tb)
    (hs : ∀ x, foldedSetIterable iter X.env x = pure x := by intro _; rfl) : YS X G (.For tg iter body [] pos) (wFor wi g tb) :=
  PS.imp (ps_for hp hc hi hg hb hs) fun D σ H ⟨ρ, F, M, x, E, a, q, et⟩ => ⟨ρ, F, M, x, _, a, q, fun J ds stay F1 M1 H1 g1 o1 wk ⟨Pv, p0, step, fin⟩ => by
    refine ⟨fun i m σ' H' => m = ds.length - i ∧ i ≤ ds.length ∧ ∃ ρ' F' M', EnvOk X.K F' σ' ρ' ∧ Gr F1 M1 H1 F' M' H' ∧ HeapOk X.K F' M' H' ∧ Pv i ρ' M', ⟨_, rfl, Nat.zero_le _, ρ, F1, M1, a.env.mono g1.ex, .refl, o1, p0⟩, ?_⟩
    rintro i m σ' H' ⟨rfl, hi, ρ', F', M', en, g', o', pv⟩
    by_cases hlt : i < ds.length
    · have sm := (step i ds[i] ρ' M' (by simp [hlt]) pv).1
      refine .inr ⟨wk.go i F' M' H' g'.ex o' sm hlt, fun σ2 H2 => ∃ ρ2 F2 M2, EnvOk X.K F2 σ2 ρ2 ∧ Gr F1 M1 H1 F2 M2 H2 ∧ HeapOk X.K F2 M2 H2 ∧ Pv (i + 1) ρ2 M2, fun σ2 H2 z => ⟨ds.length - (i + 1), by omega, rfl, hlt, z⟩, fun v H2 y => ?_⟩
      obtain ⟨F2, d, g2, o2, iv, ed⟩ := wk.yld i F' M' H' v H2 g'.ex o' sm hlt y
      have st := (step i d ρ' M' ed pv).2
      refine ⟨ρ', F2, M', d, _, en.mono g2.ex, o2, iv, st, fun σ3 ρ3 F3 M3 H3 g3 o3 en3 z => ?_⟩
      have gg := (g'.trans g2).trans g3
      refine ⟨ρ3, F3, M3, x, _, ⟨en3, o3, (a.xok.step g1).step gg⟩, z, ⟨fun σ4 ρ4 F4 M4 H4 g4 o4 en4 z4 => ⟨ρ4, F4, M4, en4, gg.trans g4, o4, z4⟩, fun v d F4 M4 H4 g4 o4 i4 z4 => et.rt v d F4 M4 H4 (g1.trans (gg.trans g4)) o4 i4 z4, fun σ4 ρ4 F4 M4 H4 g4 o4 en4 z4 => et.nx σ4 ρ4 F4 M4 H4 (g1.trans (gg.trans g4)) o4 en4 z4, fun σ4 ρ4 F4 M4 H4 g4 o4 en4 z4 => ⟨ρ4, F4, M4, en4, gg.trans g4, o4, z4⟩⟩⟩
    · obtain rfl : i = ds.length := by omega
      obtain ⟨sm, nx⟩ := fin ρ' M' pv
      exact .inl ⟨wk.stop F' M' H' g'.ex o' sm, et.nx σ' ρ' F' M' H' (g1.trans g') o' en nx⟩⟩

/-! ### comprehensions -/
def wipe0 (ρ : DSt) : List Nat → DSt
  | [] => ρ
  | v :: vs => (wipe0 ρ vs).set v none
theorem wipe_env {K : PySem.W.Frag} {F : Hp} {σ : L2.St} {ρ : DSt} (h : EnvOk K F σ ρ) : ∀ vs, EnvOk K F (wipe σ vs) (wipe0 ρ vs)
  | [] => h
  | v :: vs => (wipe_env h vs).wipe v
/-- a comprehension's target: names of its own -/
def TgOk (K : PySem.W.Frag) (g : TG) (gd : DG) (vs : List Nat) : Prop := ∀ (v : V) (d : D) (σ : L2.St) (ρ : DSt) (F : Hp) (M : MS) (H : Hp) (k : DSt → MS → Prop) (Q : L2.St → Hp → Prop), IsD K F v d → EnvOk K F (wipe σ vs) ρ → HeapOk K F M H → gd d ρ M k →
  (∀ σ2 ρ2, wipe σ2 vs = wipe σ vs → EnvOk K F σ2 ρ2 → k ρ2 M → Q σ2 H) → g v (wipe σ vs) H Q
theorem wipe_len (σ : L2.St) : ∀ vs, (wipe σ vs).length = σ.length := wipe_length σ
theorem wipe_get (σ : L2.St) (j : Nat) : ∀ vs : List Nat, (wipe σ vs)[j]? = if j ∈ vs then (if j < σ.length then some none else none) else σ[j]?
  | [] => by simp [wipe]
  | w :: vs => by
    show ((wipe σ vs).set w none)[j]? = _
    by_cases e : w = j
    · subst e
      rw [if_pos (by simp)]
      by_cases hl : w < σ.length
      · rw [List.getElem?_set_self (by rw [wipe_length]; exact hl), if_pos hl]
      · rw [if_neg hl, List.getElem?_eq_none]
        rw [List.length_set, wipe_length]; omega
    · rw [List.getElem?_set_ne e, wipe_get σ j vs]
      by_cases h : j ∈ vs
      · rw [if_pos h, if_pos (List.mem_cons_of_mem _ h)]
      · rw [if_neg h, if_neg fun z => (List.mem_cons.mp z).elim (fun y => e y.symm) h]
theorem wipe_set {σ : L2.St} {i : Nat} {v : Option V} {vs : List Nat} (h : i ∈ vs) : wipe (σ.set i v) vs = wipe σ vs :=
  List.ext_getElem? fun j => by
    rw [wipe_get, wipe_get, List.length_set]
    by_cases hj : j ∈ vs
    · rw [if_pos hj, if_pos hj]
    · rw [if_neg hj, if_neg hj, List.getElem?_set_ne (fun z => by subst z; exact hj h)]
theorem wipe_wipe {σ : L2.St} : ∀ {vs us : List Nat}, (∀ v ∈ us, v ∈ vs) → wipe (wipe σ us) vs = wipe σ vs
  | vs, [], _ => rfl
  | vs, u :: us, h => by
    show wipe ((wipe σ us).set u none) vs = _
    rw [wipe_set (h u (by simp)), wipe_wipe fun v hv => h v (by simp [hv])]
theorem tg_name {K : PySem.W.Frag} {i : Nat} {vs : List Nat} (hi : i ∈ vs) : TgOk K (gName i) (wgName i) vs := fun v d σ ρ F M H k Q iv en o q kt =>
  kt _ _ (by rw [wipe_set hi, wipe_wipe fun v h => h]) (en.set i iv) q
theorem tg_tup2 {K : PySem.W.Frag} {i j : Nat} {vs : List Nat} (hi : i ∈ vs) (hj : j ∈ vs) : TgOk K (gTup K 2 (gCons (gName i) (gCons (gName j) gNil))) (wgTup 2 (wgCons (wgName i) (wgCons (wgName j) wgNil))) vs := fun v d σ ρ F M H k Q iv en o q kt => by
  obtain ⟨ds, rfl, hl, d1, r1, rfl, d2, r2, rfl, rfl, q⟩ := q
  cases iv with
  | tup s r =>
    obtain ⟨v1, v2, rfl, i1, i2⟩ := isDs2 r
    refine ⟨_, _, rfl, sqt_mono o.sub s, rfl, v1, [v2], rfl, v2, [], rfl, rfl, kt _ _ ?_ ((en.set i i1).set j i2) q⟩
    rw [wipe_set hj, wipe_set hi, wipe_wipe fun v h => h]
theorem tg_tup3 {K : PySem.W.Frag} {i j l : Nat} {vs : List Nat} (hi : i ∈ vs) (hj : j ∈ vs) (hl' : l ∈ vs) : TgOk K (gTup K 3 (gCons (gName i) (gCons (gName j) (gCons (gName l) gNil)))) (wgTup 3 (wgCons (wgName i) (wgCons (wgName j) (wgCons (wgName l) wgNil)))) vs := fun v d σ ρ F M H k Q iv en o q kt => by
  obtain ⟨ds, rfl, hl, d1, r1, rfl, d2, r2, rfl, d3, r3, rfl, rfl, q⟩ := q
  cases iv with
  | tup s r => cases r with
    | cons i1 r =>
      obtain ⟨v2, v3, rfl, i2, i3⟩ := isDs2 r
      refine ⟨_, _, rfl, sqt_mono o.sub s, rfl, _, [v2, v3], rfl, v2, [v3], rfl, v3, [], rfl, rfl, kt _ _ ?_ (((en.set i i1).set j i2).set l i3) q⟩
      rw [wipe_set hl', wipe_set hj, wipe_set hi, wipe_wipe fun v h => h]

def wYes : DT := fun _ M _ k => k true M
theorem tYes_of {K : PySem.W.Frag} : ∀ σ H Q, rT K G wYes σ H Q → tYes σ H Q := fun σ H Q ⟨ρ, F, M, x, k, a, q, kt⟩ => kt true F M H .refl a.heap q
theorem PTs.imp {X : Cx} {e : List Expr} {t t' : TT} (h : PTs X e t) (f : ∀ σ H Q, t' σ H Q → t σ H Q) : PTs X e t' := ⟨fun pins s σ H Q I q => h.run pins s σ H Q I (f σ H Q q)⟩
theorem xts_nil : PTs X [] (rT X.K G wYes) := PTs.imp pts_nil tYes_of
theorem xts_one {c : Expr} {t : DT} (h : XT X G c t) : PTs X [c] (rT X.K G t) := pts_one h

def wLc (wi : DI) (g : DG) (tt : DT) (te : DE) (vs : List Nat) : DA := fun ρ M x k => wi ρ M x fun ds stay M1 => ds.length ≤ 100000 ∧ ∃ Pv : Nat → List D → MS → Prop, Pv 0 [] M1 ∧
  (∀ i d acc M', ds[i]? = some d → Pv i acc M' → stay M' ∧ g d (wipe0 ρ vs) M' fun ρ2 M2 => tt ρ2 M2 x fun b M3 => if b = true then te ρ2 M3 x fun y M4 => Pv (i + 1) (acc ++ [y]) M4 else Pv (i + 1) acc M3) ∧
  ∀ acc M', Pv ds.length acc M' → stay M' ∧ k acc M'
theorem lc_of {K : PySem.W.Frag} {wi : DI} {g : TG} {gd : DG} {tt : DT} {te : DE} {vs : List Nat} (tg : TgOk K g gd vs) {σ : L2.St} {H : Hp} {Q : VK} (h : rL K G (wLc wi gd tt te vs) σ H Q) : tLc (rI K G wi) g (rT K G tt) (rE K G te) vs σ H Q := by
  obtain ⟨ρ, F, M, x, k, a, q, kt⟩ := h
  refine ⟨ρ, F, M, x, _, a, q, fun J ds stay F1 M1 H1 g1 o1 wk ⟨hz, Pv, p0, step, fin⟩ Dd hD => ?_⟩
  refine ⟨fun i m H' => m = ds.length - i ∧ i ≤ ds.length ∧ ∃ F' M' acc accv, Gr F1 M1 H1 F' M' H' ∧ HeapOk K F' M' H' ∧ H' Dd = some (.lst accv) ∧ F' Dd = none ∧ M' Dd = none ∧ IsDs K F' accv acc ∧ acc.length ≤ i ∧ Pv i acc M',
    ⟨_, rfl, Nat.zero_le _, F1, M1, [], [], Gr.newU hD, o1.newU hD, upd_same, o1.noF hD, o1.noM hD, .nil, Nat.le_refl _, p0⟩, ?_⟩
  rintro i m H' ⟨rfl, hi, F', M', acc, accv, g', o', eD, fD, mD, ia, hl, pv⟩
  by_cases hlt : i < ds.length
  · have sm := (step i ds[i] acc M' (by simp [hlt]) pv).1
    refine .inr ⟨wk.go i F' M' H' g'.ex o' sm hlt, fun H2 => ∃ F2 M2 acc accv, Gr F1 M1 H1 F2 M2 H2 ∧ HeapOk K F2 M2 H2 ∧ H2 Dd = some (.lst accv) ∧ F2 Dd = none ∧ M2 Dd = none ∧ IsDs K F2 accv acc ∧ acc.length ≤ i + 1 ∧ Pv (i + 1) acc M2,
      fun H2 z => ⟨ds.length - (i + 1), by omega, rfl, hlt, z⟩, fun v H2 y => ?_⟩
    obtain ⟨F2, d, g2, o2, iv, ed⟩ := wk.yld i F' M' H' v H2 g'.ex o' sm hlt y
    have st := (step i d acc M' ed pv).2
    have eg := ((a.env.mono g1.ex).mono g'.ex).mono g2.ex
    refine tg v d σ _ F2 M' H2 _ _ iv (wipe_env eg vs) o2 st fun σ2 ρ2 ew en2 q2 => ⟨ew, ρ2, F2, M', x, _, ⟨en2, o2, ((a.xok.step g1).step g').step g2⟩, q2, fun b F3 M3 H3 g3 o3 q3 => ?_⟩
    have gg := g'.trans (g2.trans g3)
    have fD3 : F3 Dd = none := (g2.trans g3).keepF eD fD mD
    have mD3 : M3 Dd = none := (g2.trans g3).keepM eD mD
    have eD3 : H3 Dd = some (.lst accv) := (g2.trans g3).fr Dd _ eD fD mD
    cases b with
    | false =>
      dsimp only at q3 ⊢
      rw [if_neg (by decide)] at q3 ⊢
      exact ⟨F3, M3, acc, accv, gg, o3, eD3, fD3, mD3, ia.mono (g2.trans g3).ex, by omega, q3⟩
    | true =>
      dsimp only at q3 ⊢
      rw [if_pos rfl] at q3 ⊢
      refine ⟨ρ2, F3, M3, x, _, ⟨en2.mono g3.ex, o3, (((a.xok.step g1).step g').step g2).step g3⟩, q3, fun y e F4 M4 H4 g4 o4 i4 q4 => ?_⟩
      have fD4 : F4 Dd = none := g4.keepF eD3 fD3 mD3
      have mD4 : M4 Dd = none := g4.keepM eD3 mD3
      refine ⟨accv, g4.fr Dd _ eD3 fD3 mD3, ?_, F4, M4, acc ++ [e], accv ++ [y], (gg.trans g4).setU hD, o4.setU fD4 mD4 (o1.noS hD), upd_same, fD4, mD4, ((ia.mono (g2.trans g3).ex).mono g4.ex).app (.cons i4 .nil), by rw [List.length_append]; simp; omega, q4⟩
      rw [ia.len]
      exact Nat.lt_of_lt_of_le (show acc.length < 100001 by omega) (by decide)
  · obtain rfl : i = ds.length := by omega
    obtain ⟨sm, nx⟩ := fin acc M' pv
    exact .inl ⟨wk.stop F' M' H' g'.ex o' sm, kt Dd accv acc F' M' H' (g1.trans g') o' (fresh0 g1 hD) eD fD mD ia nx⟩
/-- [e for x in xs if t] -/
theorem xl_lc {elt tg iter : Expr} {ifs : List Expr} {scope : Scope} {own : List (Str × Nat)} {wi : DI} {g : TG} {gd : DG} {tt : DT} {te : DE} (hc : X.calm = true) (hN : X.N.Nodup) (hi : XI X G tg iter wi) (ok : BlkOk X.N X.env.scope scope own) (ht : TgOk X.K g gd (own.map (·.2)))
    (hg : ∀ (s : Shared) (H : Hp) (C : Addr) (cl : List (Str × Addr)) (fp : List Addr), PG (X.blk s H scope (compEnvC scope cl C X.env) fp) tg g)
    (htt : ∀ (s : Shared) (H : Hp) (C : Addr) (cl : List (Str × Addr)) (fp : List Addr), PTs (X.blk s H scope (compEnvC scope cl C X.env) fp) ifs (rT X.K G tt))
    (he : ∀ (s : Shared) (H : Hp) (C : Addr) (cl : List (Str × Addr)) (fp : List Addr), PE (X.blk s H scope (compEnvC scope cl C X.env) fp) elt (rE X.K G te))
    (hs : ∀ x, foldedSetIterable iter X.env x = pure x := by intro _; rfl) : XL X G (.ListComp elt [⟨tg, iter, ifs, 0⟩] scope pos) (wLc wi gd tt te (own.map (·.2))) :=
  PE.imp (pe_lc hc hN hi ok hg htt he hs) fun σ H Q h => lc_of ht h
/-- name = [e for x in xs if t] -/
def wSetLc (i : Nat) (w : DE) : DS := fun E ρ M x => w ρ M x fun d M1 => E.nx (ρ.set i (some d)) M1
end
end TV

set_option Elab.async false
set_option linter.all false
set_option maxRecDepth 100000
set_option maxHeartbeats 1000000
namespace TV
open PySem PySem.Spec PyProof.Rows L2

section
variable {X : Cx}
/-! ### what operators give, over trees -/
def addD : OD := fun M d e q => match view M d, view M e with
  | .int i, .int j => q (.int (i + j))
  | .str a, .str b => a.length + b.length ≤ 100000 ∧ q (.str (a ++ b))
  | .lst xs, .lst ys => xs.length + ys.length ≤ 100000 ∧ q (.lst (xs ++ ys))
  | .tup xs, .tup ys => xs.length + ys.length ≤ 100000 ∧ q (.tup (xs ++ ys))
  | _, _ => False
def rAddD (K : PySem.W.Frag) : R2 := fun x y H Q => (rI0 (fun i j => .int (i + j)) x y H Q ∨ (∃ i j, x = .str i ∧ y = .str j ∧ i.length + j.length ≤ sizeLine ∧ Q (.str (i ++ j)) H)) ∨ (rCat x y H Q ∨ rCatA K x y H Q)
theorem op_addD : OpR X (binaryOp .Add) (rAddD X.K) := (op_add.or op_add_str).or (op_cat.or op_catA)
theorem IsDs.nil_iff {K : PySem.W.Frag} {F : Hp} {xs : List V} {ds : List D} (h : IsDs K F xs ds) : xs = [] ↔ ds = [] := by cases h <;> simp
theorem l_addD : Lifts X.K addD (rAddD X.K) := fun F M H v u d e q Q o i1 i2 h kt => by
  unfold addD at h
  split at h
  · rename_i i j e1 e2
    obtain ⟨rfl, _⟩ := asInt o i1 e1
    obtain ⟨rfl, _⟩ := asInt o i2 e2
    exact .inl (.inl ⟨i, j, rfl, rfl, kt _ _ F H .refl o .int h⟩)
  · rename_i i j e1 e2
    obtain ⟨rfl, _⟩ := asStr o i1 e1
    obtain ⟨rfl, _⟩ := asStr o i2 e2
    exact .inl (.inr ⟨i, j, rfl, rfl, sz5 h.1, kt _ _ F H .refl o .str h.2⟩)
  · rename_i xs ys e1 e2
    obtain ⟨p, vs, rfl, hp, r1⟩ := asLst o i1 e1
    obtain ⟨p2, us, rfl, hp2, r2⟩ := asLst o i2 e2
    exact .inr (.inl ⟨p, p2, vs, us, rfl, rfl, hp, hp2, by rw [r1.len, r2.len]; exact sz5 h.1, fun z hz => kt _ _ (upd F z (.lst (vs ++ us))) _ (.frz (o.noF hz) hz) (o.frz hz) (.lst upd_same ((r1.app r2).mono (Same.upd (o.noF hz)))) h.2⟩)
  · rename_i xs ys e1 e2
    obtain ⟨p, vs, rfl, hp, r1, ed⟩ := asTup o i1 e1
    obtain ⟨p2, us, rfl, hp2, r2, ee⟩ := asTup o i2 e2
    subst ed ee
    refine .inr (.inr ⟨p, p2, vs, us, rfl, rfl, hp, hp2, by rw [r1.len, r2.len]; exact sz5 h.1, fun z => ?_, fun _ z => ?_, fun _ _ z hz => ?_⟩)
    · have := r1.nil_iff.mp z
      subst this
      exact kt _ _ F H .refl o i2 h.2
    · have := r2.nil_iff.mp z
      subst this
      rw [List.append_nil] at h
      exact kt _ _ F H .refl o i1 h.2
    · exact kt _ _ (upd F z (.tup (vs ++ us))) _ (.frz (o.noF hz) hz) (o.frz hz) (.tup (.of upd_same) ((r1.app r2).mono (Same.upd (o.noF hz)))) h.2
  · exact h.elim
def subD : OD := fun M d e q => ∃ i j, d = .int i ∧ e = .int j ∧ q (.int (i - j))
theorem l_subD : Lifts X.K subD (rI0 fun i j => .int (i - j)) := fun F M H v u d e q Q o i1 i2 ⟨i, j, e1, e2, h⟩ kt => by
  subst e1 e2
  exact ⟨i, j, isD_int i1, isD_int i2, kt _ _ F H .refl o .int h⟩
/-- ints in, under C -/
def intD (C : Int → Int → Prop) (g : Int → Int → Int) : OD := fun M d e q => ∃ i j, d = .int i ∧ e = .int j ∧ C i j ∧ q (.int (g i j))
theorem l_intD {C : Int → Int → Prop} {g : Int → Int → Int} : Lifts X.K (intD C g) (L2.rI C fun i j => .int (g i j)) := fun F M H v u d e q Q o i1 i2 ⟨i, j, e1, e2, hc, h⟩ kt => by
  subst e1 e2
  exact ⟨i, j, isD_int i1, isD_int i2, hc, kt _ _ F H .refl o .int h⟩
def cmpD (g : Int → Int → Bool) : OD := fun M d e q => ∃ i j, d = .int i ∧ e = .int j ∧ q (.bl (g i j))
theorem l_cmpD {g : Int → Int → Bool} : Lifts X.K (cmpD g) (rI0 fun i j => .bl (g i j)) := fun F M H v u d e q Q o i1 i2 ⟨i, j, e1, e2, h⟩ kt => by
  subst e1 e2
  exact ⟨i, j, isD_int i1, isD_int i2, kt _ _ F H .refl o .bl h⟩
/-- one sign in a text -/
def inSD : OD := fun M d e q => ∃ c z, d = .str ⟨#[c]⟩ ∧ e = .str z ∧ q (.bl (decide (c ∈ z.cps.toList)))
theorem l_inSD : Lifts X.K inSD (fun x y H Q => ∃ (c : Nat) (z : Str), x = .str ⟨#[c]⟩ ∧ y = .str z ∧ Q (.bl (decide (c ∈ z.cps.toList))) H) := fun F M H v u d e q Q o i1 i2 ⟨c, z, e1, e2, h⟩ kt => by
  subst e1 e2
  exact ⟨c, z, isD_str i1, isD_str i2, kt _ _ F H .refl o .bl h⟩
def ninSD : OD := fun M d e q => ∃ c z, d = .str ⟨#[c]⟩ ∧ e = .str z ∧ q (.bl (!decide (c ∈ z.cps.toList)))

/-! ### data compared -/
mutual
/-- data without dicts and objects, by depth -/
def toPy : D → Option PyData
  | .non => some .none
  | .bl b => some (.bool b)
  | .int i => some (.int i)
  | .str s => some (.str s)
  | .tup ds => (toPys ds).map .tuple
  | .lst ds => (toPys ds).map .list
  | .fro ds => (toPys ds).map .list
  | .dct _ => none
  | .ins _ _ => none
  | .obj _ => none
  | .ty _ => none
def toPys : List D → Option (List PyData)
  | [] => some []
  | d :: ds => match toPy d, toPys ds with
    | some p, some ps => some (p :: ps)
    | _, _ => none
end
mutual
theorem dp_of {K : PySem.W.Frag} {F H : Hp} (s : Same F H) : ∀ {v d p}, IsD K F v d → toPy d = some p → Dp K H v p
  | _, _, _, .non, e => by cases e; exact .non
  | _, _, _, .bl, e => by cases e; exact .bl _
  | _, _, _, .int, e => by cases e; exact .int _
  | _, _, _, .str, e => by cases e; exact .str _
  | _, .tup ds, _, .tup q r, e => by
    unfold toPy at e
    cases h : toPys ds with
    | none => rw [h] at e; cases e
    | some ps => rw [h] at e; cases e; exact .tup (sqt_mono s q) (dps_of s r h)
  | _, .lst ds, _, .lst q r, e => by
    unfold toPy at e
    cases h : toPys ds with
    | none => rw [h] at e; cases e
    | some ps => rw [h] at e; cases e; exact .lst (.of (s _ _ q)) (dps_of s r h)
  | _, .fro ds, _, .fro q r, e => by
    unfold toPy at e
    cases h : toPys ds with
    | none => rw [h] at e; cases e
    | some ps => rw [h] at e; cases e; exact .lst (sql_mono s q) (dps_of s r h)
  | _, _, _, .dct _ _, e => by unfold toPy at e; cases e
  | _, _, _, .ins _ _, e => by unfold toPy at e; cases e
  | _, _, _, .obj, e => by unfold toPy at e; cases e
  | _, _, _, .ty, e => by unfold toPy at e; cases e
theorem dps_of {K : PySem.W.Frag} {F H : Hp} (s : Same F H) : ∀ {v d p}, IsDs K F v d → toPys d = some p → DpAll K H v p
  | _, _, _, .nil, e => by unfold toPys at e; cases e; exact .nil
  | _, d :: ds, _, .cons h r, e => by
    unfold toPys at e
    cases h1 : toPy d with
    | none => rw [h1] at e; simp at e
    | some p =>
      cases h2 : toPys ds with
      | none => rw [h1, h2] at e; simp at e
      | some ps => rw [h1, h2] at e; cases e; exact .cons (dp_of s h h1) (dps_of s r h2)
end
theorem dp_view {K : PySem.W.Frag} {F H : Hp} {M : MS} {v : V} {d : D} {p : PyData} (o : HeapOk K F M H) (i : IsD K F v d) (e : toPy (view M d) = some p) : Dp K H v p := by
  rcases seen o i with ⟨a, rfl, rfl, ⟨ds, xs, _, e', hh, r⟩ | ⟨es, kvs, _, e', _⟩ | ⟨C, fs, dx, gs, _, e', _⟩ | ⟨_, e'⟩⟩ | ⟨_, e'⟩
  · rw [e'] at e
    unfold toPy at e
    cases h : toPys ds with
    | none => rw [h] at e; cases e
    | some ps => rw [h] at e; cases e; exact .lst (.of hh) (dps_of o.sub r h)
  · rw [e'] at e; unfold toPy at e; cases e
  · rw [e'] at e; unfold toPy at e; cases e
  · rw [e'] at e; unfold toPy at e; cases e
  · rw [e'] at e
    exact dp_of o.sub i e
def eqD : OD := fun M d e q => ∃ p r, toPy (view M d) = some p ∧ toPy (view M e) = some r ∧ SeqAt.shaped p = true ∧ SeqAt.shaped r = true ∧ q (.bl (PyData.eqv p r))
def neD : OD := fun M d e q => ∃ p r, toPy (view M d) = some p ∧ toPy (view M e) = some r ∧ SeqAt.shaped p = true ∧ SeqAt.shaped r = true ∧ q (.bl (!PyData.eqv p r))
theorem l_eqD : Lifts X.K eqD (rEqD X.K) := fun F M H v u d e q Q o i1 i2 ⟨p, r, e1, e2, s1, s2, h⟩ kt => ⟨p, r, dp_view o i1 e1, dp_view o i2 e2, s1, s2, kt _ _ F H .refl o .bl h⟩
theorem l_neD : Lifts X.K neD (rNeD X.K) := fun F M H v u d e q Q o i1 i2 ⟨p, r, e1, e2, s1, s2, h⟩ kt => ⟨p, r, dp_view o i1 e1, dp_view o i2 e2, s1, s2, kt _ _ F H .refl o .bl h⟩

/-! ### in a list or tuple of flat things -/
def flatD : D → Bool
  | .non | .bl _ | .int _ | .str _ => true
  | _ => false
def eqF : D → D → Bool
  | .non, .non => true
  | .bl a, .bl b => a == b
  | .bl a, .int b => (if a then 1 else 0) == b
  | .int a, .bl b => a == (if b then 1 else 0)
  | .int a, .int b => a == b
  | .str a, .str b => a == b
  | _, _ => false
def memD (d : D) (ds : List D) : Bool := ds.any fun e => eqF e d
def toV : D → V
  | .non => .non | .bl b => .bl b | .int i => .int i | .str s => .str s | _ => .non
theorem flat_v {K : PySem.W.Frag} {F : Hp} {v : V} {d : D} (h : IsD K F v d) (f : flatD d = true) : v = toV d ∧ flatV v = true := by
  cases h with
  | non => exact ⟨rfl, rfl⟩
  | bl => exact ⟨rfl, rfl⟩
  | int => exact ⟨rfl, rfl⟩
  | str => exact ⟨rfl, rfl⟩
  | _ => cases f
theorem eqF_v {d e : D} (f : flatD d = true) (g : flatD e = true) : eqV (toV d) (toV e) = eqF d e := by
  cases d <;> first | (cases f; done) | (cases e <;> first | (cases g; done) | rfl)
theorem mem_v {K : PySem.W.Frag} {F : Hp} {v : V} {d : D} (h : IsD K F v d) (f : flatD d = true) : ∀ {xs ds}, IsDs K F xs ds → ds.all flatD = true → inV v xs = memD d ds ∧ xs.all flatV = true
  | _, _, .nil, _ => ⟨rfl, rfl⟩
  | _, _, .cons i r, a => by
    rw [List.all_cons, Bool.and_eq_true] at a
    obtain ⟨e1, f1⟩ := flat_v i a.1
    obtain ⟨e2, f2⟩ := flat_v h f
    obtain ⟨m1, m2⟩ := mem_v h f r a.2
    unfold inV memD at *
    rw [List.any_cons, List.any_cons, List.all_cons, m2, f1, m1, e1, e2, eqF_v a.1 f]
    exact ⟨rfl, rfl⟩
def inD (neg : Bool) : OD := fun M d e q => flatD d = true ∧ ((∃ ds, view M e = .lst ds ∧ ds.all flatD = true ∧ q (.bl (if neg then !memD d ds else memD d ds))) ∨ ∃ ds, e = .tup ds ∧ ds.all flatD = true ∧ q (.bl (if neg then !memD d ds else memD d ds)))
theorem l_inD {neg : Bool} : Lifts X.K (inD neg) (rIn X.K neg) := fun F M H v u d e q Q o i1 i2 ⟨f, h⟩ kt => by
  rcases h with ⟨ds, e2, a, h⟩ | ⟨ds, e2, a, h⟩
  · obtain ⟨p, xs, rfl, hp, r⟩ := asLst o i2 e2
    obtain ⟨m1, m2⟩ := mem_v i1 f r a
    exact ⟨p, xs, rfl, .inl (.of hp), (flat_v i1 f).2, m2, by rw [m1]; exact kt _ _ F H .refl o .bl h⟩
  · subst e2
    obtain ⟨p, xs, rfl, hp, r, _⟩ := asTup o i2 rfl
    obtain ⟨m1, m2⟩ := mem_v i1 f r a
    exact ⟨p, xs, rfl, .inr hp, (flat_v i1 f).2, m2, by rw [m1]; exact kt _ _ F H .refl o .bl h⟩

/-! ### subscripts -/
def ixD : OD := fun M d e q => ∃ i, e = .int i ∧ match view M d with
  | .lst ds => ∃ c, atI ds i = some c ∧ q c
  | .tup ds => ∃ c, atI ds i = some c ∧ q c
  | .str s => s.length ≤ 100000 ∧ ∃ c, atI s.cps.toList i = some c ∧ q (.str ⟨#[c]⟩)
  | _ => False
theorem atI_v {K : PySem.W.Frag} {F : Hp} {xs : List V} {ds : List D} {i : Int} {c : D} (r : IsDs K F xs ds) (h : atI ds i = some c) : ∃ v, atI xs i = some v ∧ IsD K F v c := by
  unfold atI at *
  rw [← r.len] at h
  cases e : ixN xs.length i with
  | none => rw [e] at h; cases h
  | some j =>
    rw [e] at h
    exact r.get j h
theorem l_ixD : Lifts X.K ixD (rIx X.K) := fun F M H v u d e q Q o i1 i2 ⟨i, ei, h⟩ kt => by
  subst ei
  obtain rfl := isD_int i2
  split at h
  · rename_i ds e1
    obtain ⟨p, xs, rfl, hp, r⟩ := asLst o i1 e1
    obtain ⟨c, ec, h⟩ := h
    obtain ⟨w, ew, iw⟩ := atI_v r ec
    exact .inl ⟨p, xs, i, w, rfl, rfl, .of hp, ew, kt _ _ F H .refl o iw h⟩
  · rename_i ds e1
    obtain ⟨p, xs, rfl, hp, r, _⟩ := asTup o i1 e1
    obtain ⟨c, ec, h⟩ := h
    obtain ⟨w, ew, iw⟩ := atI_v r ec
    exact .inr (.inl ⟨p, xs, i, w, rfl, rfl, hp, ew, kt _ _ F H .refl o iw h⟩)
  · rename_i s e1
    obtain ⟨rfl, _⟩ := asStr o i1 e1
    obtain ⟨hz, c, ec, h⟩ := h
    exact .inr (.inr ⟨s, i, c, rfl, rfl, sz5 hz, ec, kt _ _ F H .refl o .str h⟩)
  · exact h.elim
theorem xe_ix {G : XK} {a b : Expr} {wa wb : DE} {pos : Pos} (ha : XE X G a wa) (hb : XE X G b wb) (hs : PlainIx b) : XE X G (.Subscript a b pos) (wOp ixD wa wb) :=
  PE.imp (pe_ix ix_seq ha hb hs) fun σ H Q h => tOp_of l_ixD h

/-! ### slices -/
abbrev DO := DSt → MS → XD → (Option Int → MS → Prop) → Prop
def rO (K : PySem.W.Frag) (G : XK) (w : DO) : TO := fun σ H Q => ∃ ρ F M x k, At K G σ ρ F M H x ∧ w ρ M x k ∧ ∀ i F' M' H', Gr F M H F' M' H' → HeapOk K F' M' H' → k i M' → Q i H'
def wNo : DO := fun _ M _ k => k none M
def wPart (w : DE) : DO := fun ρ M x k => w ρ M x fun d M1 => ∃ i, d = .int i ∧ k (some i) M1
theorem PO.imp {e : Option Expr} {t t' : TO} (h : PO X e t) (f : ∀ σ H Q, t' σ H Q → t σ H Q) : PO X e t' := ⟨fun pins s σ H Q I q => h.run pins s σ H Q I (f σ H Q q)⟩
theorem xo_none {G : XK} : PO X none (rO X.K G wNo) := PO.imp po_none fun σ H Q ⟨ρ, F, M, x, k, a, q, kt⟩ => kt none F M H .refl a.heap q
theorem xo_some {G : XK} {e : Expr} {w : DE} (h : XE X G e w) : PO X (some e) (rO X.K G (wPart w)) := PO.imp (po_some h) fun σ H Q ⟨ρ, F, M, x, k, a, q, kt⟩ =>
  ⟨ρ, F, M, x, _, a, q, fun v d F1 M1 H1 g1 o1 i1 ⟨i, e, q1⟩ => by subst e; exact ⟨i, isD_int i1, kt _ F1 M1 H1 g1 o1 q1⟩⟩
def cutD (ds : List D) (lo hi : Option Int) : List D := (ds.drop (HT.sIx ds.length 0 lo)).take (HT.sIx ds.length ds.length hi - HT.sIx ds.length 0 lo)
theorem cut_v {K : PySem.W.Frag} {F : Hp} {xs : List V} {ds : List D} (r : IsDs K F xs ds) (lo hi : Option Int) : IsDs K F (cutV xs lo hi) (cutD ds lo hi) := by
  unfold cutV cutD
  rw [r.len]
  exact (r.drop _).take _
/-- a slice of a list: a new list -/
def wSlL (w : DE) (l u : DO) : DA := fun ρ M x k => w ρ M x fun d M1 => l ρ M1 x fun lo M2 => u ρ M2 x fun hi M3 => ∃ ds, (view M3 d = .lst ds ∨ d = .fro ds) ∧ k (cutD ds lo hi) M3
theorem xl_slice {G : XK} {e : Expr} {lo hi : Option Expr} {w : DE} {l u : DO} {p2 pos : Pos} (he : XE X G e w) (hl : PO X lo (rO X.K G l)) (hu : PO X hi (rO X.K G u)) : XL X G (.Subscript e (.Slice lo hi none p2) pos) (wSlL w l u) :=
  PE.imp (pe_slice sl_list he hl hu) fun σ H Q ⟨ρ, F, M, x, k, a, q, kt⟩ => ⟨ρ, F, M, x, _, a, q, fun v d F1 M1 H1 g1 o1 i1 q1 =>
    ⟨ρ, F1, M1, x, _, a.step g1 o1, q1, fun lo F2 M2 H2 g2 o2 q2 => ⟨ρ, F2, M2, x, _, a.step (g1.trans g2) o2, q2, fun hi F3 M3 H3 g3 o3 ⟨ds, e, q3⟩ => by
      have i3 := i1.mono (g2.trans g3).ex
      have gg := (g1.trans g2).trans g3
      have fin : ∀ p xs, SqL X.K H3 p xs → IsDs X.K F3 xs ds → v = .ref p → rSlL X.K v lo hi H3 Q := fun p xs hp r ev =>
        ⟨p, xs, ev, hp, fun z hz => kt z _ _ F3 M3 _ (gg.trans (.newU hz)) (o3.newU hz) (fresh0 gg hz) upd_same (o3.noF hz) (o3.noM hz) (cut_v r lo hi) q3⟩
      rcases e with e | e
      · obtain ⟨p, xs, ev, hp, r⟩ := asLst o3 i3 e
        exact fin p xs (.of hp) r ev
      · subst e
        cases i3 with
        | fro s r => exact fin _ _ (sql_mono o3.sub s) r rfl⟩⟩⟩
/-- .. of a tuple, of a text -/
def wSlT (w : DE) (l u : DO) : DE := fun ρ M x k => w ρ M x fun d M1 => l ρ M1 x fun lo M2 => u ρ M2 x fun hi M3 => ∃ ds, d = .tup ds ∧ k (.tup (cutD ds lo hi)) M3
theorem cut_whole {ds : List D} {lo hi : Option Int} (h : HT.sIx ds.length 0 lo = 0 ∧ HT.sIx ds.length ds.length hi = ds.length) : cutD ds lo hi = ds := by
  unfold cutD
  rw [h.1, h.2]
  simp
theorem xe_sliceT {G : XK} {e : Expr} {lo hi : Option Expr} {w : DE} {l u : DO} {p2 pos : Pos} (he : XE X G e w) (hl : PO X lo (rO X.K G l)) (hu : PO X hi (rO X.K G u)) : XE X G (.Subscript e (.Slice lo hi none p2) pos) (wSlT w l u) :=
  PE.imp (pe_slice sl_tupA he hl hu) fun σ H Q ⟨ρ, F, M, x, k, a, q, kt⟩ => ⟨ρ, F, M, x, _, a, q, fun v d F1 M1 H1 g1 o1 i1 q1 =>
    ⟨ρ, F1, M1, x, _, a.step g1 o1, q1, fun lo F2 M2 H2 g2 o2 q2 => ⟨ρ, F2, M2, x, _, a.step (g1.trans g2) o2, q2, fun hi F3 M3 H3 g3 o3 ⟨ds, e, q3⟩ => by
      subst e
      have i3 := i1.mono (g2.trans g3).ex
      obtain ⟨p, xs, rfl, hp, r, _⟩ := asTup o3 i3 rfl
      refine ⟨p, xs, rfl, hp, fun z => ?_, fun _ z hz => ?_⟩
      · rw [r.len] at z
        rw [cut_whole z] at q3
        exact kt _ _ F3 M3 H3 ((g1.trans g2).trans g3) o3 i3 q3
      · exact kt _ _ (upd F3 z (.tup (cutV xs lo hi))) M3 _ (((g1.trans g2).trans g3).trans (.frz (o3.noF hz) hz)) (o3.frz hz) (.tup (.of upd_same) ((cut_v r lo hi).mono (Same.upd (o3.noF hz)))) q3⟩⟩⟩
def wSlS (w : DE) (l u : DO) : DE := fun ρ M x k => w ρ M x fun d M1 => l ρ M1 x fun lo M2 => u ρ M2 x fun hi M3 => ∃ z, d = .str z ∧ z.length ≤ 100000 ∧ k (.str (cutS z lo hi)) M3
theorem xe_sliceS {G : XK} {e : Expr} {lo hi : Option Expr} {w : DE} {l u : DO} {p2 pos : Pos} (he : XE X G e w) (hl : PO X lo (rO X.K G l)) (hu : PO X hi (rO X.K G u)) : XE X G (.Subscript e (.Slice lo hi none p2) pos) (wSlS w l u) :=
  PE.imp (pe_slice sl_str he hl hu) fun σ H Q ⟨ρ, F, M, x, k, a, q, kt⟩ => ⟨ρ, F, M, x, _, a, q, fun v d F1 M1 H1 g1 o1 i1 q1 =>
    ⟨ρ, F1, M1, x, _, a.step g1 o1, q1, fun lo F2 M2 H2 g2 o2 q2 => ⟨ρ, F2, M2, x, _, a.step (g1.trans g2) o2, q2, fun hi F3 M3 H3 g3 o3 ⟨z, e, hz, q3⟩ => by
      subst e
      obtain rfl := isD_str i1
      exact ⟨z, rfl, sz5 hz, kt _ _ F3 M3 H3 ((g1.trans g2).trans g3) o3 .str q3⟩⟩⟩⟩

/-! ### built-ins -/
def lenC : OC := fun M ds q => ∃ d, ds = [d] ∧ match view M d with
  | .lst es => q (.int es.length)
  | .fro es => q (.int es.length)
  | .tup es => q (.int es.length)
  | .str s => s.length ≤ 100000 ∧ q (.int s.length)
  | _ => False
def rLenD (K : PySem.W.Frag) : List V → Hp → VK → Prop := fun xs H Q => (∃ p ys, xs = [.ref p] ∧ (SqL K H p ys ∨ SqT K H p ys) ∧ Q (.int ys.length) H) ∨ ∃ z, xs = [.str z] ∧ z.length ≤ sizeLine ∧ Q (.int z.length) H
theorem CallR.or {f : Value} {r r' : List V → Hp → VK → Prop} (h : CallR X f r) (h' : CallR X f r') : CallR X f (fun xs H Q => r xs H Q ∨ r' xs H Q) := fun pins s σ H xs us Q I rv q => by
  rcases q with q | q
  · exact h pins s σ H xs us Q I rv q
  · exact h' pins s σ H xs us Q I rv q
theorem call_lenD' : CallR X (.builtin "len") (rLenD X.K) := CallR.or call_len_seq call_len_str
theorem l_lenC : LiftsC X.K lenC (rLenD X.K) := fun F M H vs ds q Q o i ⟨d, ed, h⟩ kt => by
  subst ed
  obtain ⟨v, rfl, iv⟩ := isDs1 i
  split at h
  · rename_i es e
    obtain ⟨p, xs, rfl, hp, r⟩ := asLst o iv e
    exact .inl ⟨p, xs, rfl, .inl (.of hp), by rw [r.len]; exact kt _ _ F H .refl o .int h⟩
  · rename_i es e
    rcases seen o iv with ⟨p, rfl, rfl, ⟨ds', xs, _, e', hh, q⟩ | ⟨es, kvs, _, e', hh, q⟩ | ⟨C', fs', dx, gs, _, e', hh, q⟩ | ⟨_, e'⟩⟩ | ⟨n, e'⟩
    · rw [e] at e'; cases e'
    · rw [e] at e'; cases e'
    · rw [e] at e'; cases e'
    · rw [e] at e'; cases e'
    · rw [e] at e'
      subst e'
      cases iv with
      | fro s r => exact .inl ⟨_, _, rfl, .inl (sql_mono o.sub s), by rw [r.len]; exact kt _ _ F H .refl o .int h⟩
  · rename_i es e
    obtain ⟨p, xs, rfl, hp, r, _⟩ := asTup o iv e
    exact .inl ⟨p, xs, rfl, .inr hp, by rw [r.len]; exact kt _ _ F H .refl o .int h⟩
  · rename_i s e
    obtain ⟨rfl, _⟩ := asStr o iv e
    exact .inr ⟨s, rfl, sz5 h.1, kt _ _ F H .refl o .int h.2⟩
  · exact h.elim
/-- the built-in type of a thing -/
def tyD : D → Option String
  | .non => some "NoneType"
  | .bl _ => some "bool"
  | .int _ => some "int"
  | .str _ => some "str"
  | .tup _ => some "tuple"
  | .lst _ => some "list"
  | .dct _ => some "dict"
  | _ => none
theorem ty_of {K : PySem.W.Frag} {F H : Hp} {M : MS} {v : V} {d : D} {t : String} (o : HeapOk K F M H) (i : IsD K F v d) (e : tyD (view M d) = some t) : TyX K H v (.type t) := by
  rcases seen o i with ⟨p, rfl, rfl, ⟨ds', xs, _, e', hh, q⟩ | ⟨es, kvs, _, e', hh, q⟩ | ⟨C', fs', dx, gs, _, e', hh, q⟩ | ⟨_, e'⟩⟩ | ⟨n, e'⟩
  · rw [e'] at e; cases e; exact .base (.lst hh)
  · rw [e'] at e; cases e; exact .base (.dK hh)
  · rw [e'] at e; cases e
  · rw [e'] at e; cases e
  · rw [e'] at e
    cases i with
    | non => cases e; exact .base .non
    | bl => cases e; exact .base (.bl _)
    | int => cases e; exact .base (.int _)
    | str => cases e; exact .base (.str _)
    | tup s r =>
      cases e
      rcases sqt_mono o.sub s with (s | ⟨ob, s⟩) | ⟨ob, its, n, s, c, _⟩
      · exact .base (.tup s)
      · exact .fTuple s
      · exact .kTuple s c
    | lst s r => cases e; exact .base (.lst (o.sub _ _ s))
    | dct s r => cases e; exact .base (.dK (o.sub _ _ s))
    | _ => cases e
def isiC : OC := fun M ds q => ∃ d n t b, ds = [d, .ty n] ∧ tyD (view M d) = some t ∧ kitB t n = some b ∧ q (.bl b)
theorem l_isiC : LiftsC X.K isiC (rIsi X.K) := fun F M H vs ds q Q o i ⟨d, n, t, b, ed, et, eb, h⟩ kt => by
  subst ed
  obtain ⟨v, u, rfl, iv, iu⟩ := isDs2 i
  cases iu
  exact ⟨v, .ty n, .type t, .type n, b, rfl, .ty n, ty_of o iv et, kit_ty eb, kt _ _ F H .refl o .bl h⟩
def allC (f : List Bool → Bool) : OC := fun M ds q => ∃ d bs, ds = [d] ∧ view M d = .lst (bs.map D.bl) ∧ q (.bl (f bs))
theorem bools_v {K : PySem.W.Frag} {F : Hp} : ∀ {xs : List V} {bs : List Bool}, IsDs K F xs (bs.map D.bl) → xs = bs.map V.bl
  | _, [], .nil => rfl
  | _, b :: bs, .cons i r => by rw [isD_bl i, bools_v r]; rfl
theorem l_allC : LiftsC X.K (allC fun bs => bs.all id) (rAll X.K) := fun F M H vs ds q Q o i ⟨d, bs, ed, ev, h⟩ kt => by
  subst ed
  obtain ⟨v, rfl, iv⟩ := isDs1 i
  obtain ⟨p, xs, rfl, hp, r⟩ := asLst o iv ev
  obtain rfl := bools_v r
  exact ⟨p, bs, rfl, .of hp, kt _ _ F H .refl o .bl h⟩
theorem l_anyC : LiftsC X.K (allC fun bs => bs.any id) (rAny X.K) := fun F M H vs ds q Q o i ⟨d, bs, ed, ev, h⟩ kt => by
  subst ed
  obtain ⟨v, rfl, iv⟩ := isDs1 i
  obtain ⟨p, xs, rfl, hp, r⟩ := asLst o iv ev
  obtain rfl := bools_v r
  exact ⟨p, bs, rfl, .of hp, kt _ _ F H .refl o .bl h⟩
def divmodC : OC := fun M ds q => ∃ i j, ds = [.int i, .int j] ∧ CDiv i j ∧ q (.tup [.int (i / j), .int (i % j)])
theorem l_divmodC : LiftsC X.K divmodC (fun xs H Q => ∃ i j, xs = [.int i, .int j] ∧ CDiv i j ∧ ∀ p, H p = none → Q (.ref p) (upd H p (.tup [.int (i / j), .int (i % j)]))) := fun F M H vs ds q Q o i ⟨a, b, ed, hc, h⟩ kt => by
  subst ed
  obtain ⟨v, u, rfl, iv, iu⟩ := isDs2 i
  obtain rfl := isD_int iv
  obtain rfl := isD_int iu
  exact ⟨a, b, rfl, hc, fun z hz => kt _ _ (upd F z _) _ (.frz (o.noF hz) hz) (o.frz hz) (.tup (.of upd_same) (.cons .int (.cons .int .nil))) h⟩
end

/-! ### methods of what is built in -/
abbrev OM := MS → D → List D → (D → Prop) → Prop
def LiftsM (K : PySem.W.Frag) (T : String) (om : OM) (r : V → List V → Hp → VK → Prop) : Prop := ∀ F M H v d vs ds (q : D → Prop) (Q : VK), HeapOk K F M H → IsD K F v d → IsDs K F vs ds → om M d ds q →
  (∀ w c F' H', Gr F M H F' M H' → HeapOk K F' M H' → IsD K F' w c → q c → Q w H') → r v vs H Q
/-- the receiver's type is known before the arguments -/
def wBM (T : String) (om : OM) (w : DE) (ws : DA) : DE := fun ρ M x k => w ρ M x fun d M1 => tyD (view M1 d) = some T ∧ ws ρ M1 x fun ds M2 => om M2 d ds fun c => k c M2
section
variable {X : Cx} {G : XK} {o e : Expr} {es : List Expr} {w : DE} {ws : DA} {name : Str} {apos cpos : Pos} {T id : String} {r : V → List V → Hp → VK → Prop} {om : OM}
theorem tyV_of {K : PySem.W.Frag} {F H : Hp} {M : MS} {v : V} {d : D} {T : String} (o : HeapOk K F M H) (i : IsD K F v d) (e : tyD (view M d) = some T) (hT : T = "str" ∨ T = "int" ∨ T = "list" ∨ T = "dict") : tyV K T v H := by
  rcases seen o i with ⟨p, rfl, rfl, ⟨ds', xs, _, e', hh, q⟩ | ⟨es, kvs, _, e', hh, q⟩ | ⟨C', fs', dx, gs, _, e', hh, q⟩ | ⟨_, e'⟩⟩ | ⟨n, e'⟩
  · rw [e'] at e; cases e; exact .inl ⟨rfl, _, .of hh⟩
  · rw [e'] at e; cases e; exact .inr (.inr (.inl ⟨rfl, .inl ⟨_, hh⟩⟩))
  · rw [e'] at e; cases e
  · rw [e'] at e; cases e
  · rw [e'] at e
    cases i with
    | int => cases e; rfl
    | str => cases e; rfl
    | lst s r => cases e; exact .inl ⟨rfl, _, .of (o.sub _ _ s)⟩
    | dct s r => cases e; exact .inr (.inr (.inl ⟨rfl, .inl ⟨_, o.sub _ _ s⟩⟩))
    | non => cases e; simp at hT
    | bl => cases e; simp at hT
    | tup s r => cases e; simp at hT
    | _ => cases e
theorem xe_bm (pa : PlainAttrs T) (slot : Slot T name id) (hty : typeOf (.builtin id) = pure (.type "method_descriptor")) (hm : MtR X id r) (l : LiftsM X.K T om r) (hT : T = "str" ∨ T = "int" ∨ T = "list" ∨ T = "dict") (ho : XE X G o w) (ha : XA X G (e :: es) ws)
    (hbase : attributeBase o name X.env (eval o X.env) = eval o X.env := by rfl)
    (hfew : ((backTo cpos (starEach (e :: es) X.env)).all (fun x => !x.1) && (backToKw cpos (keywordEach [] X.env)).all (fun x => x.1.isSome)
      && decide ((e :: es).length + ([] : List Keyword).length + (if ([] : List Keyword).isEmpty then 0 else 1) < 30)) = true := by rfl)
    (hline : (apos.endLine == cpos.line) = true := by rfl) (hs : starEach (e :: es) X.env = (false, eval e X.env) :: starEach es X.env := by rfl) (hplain : (backTo cpos (starEach es X.env)).any (·.1) = false := by rfl) :
    XE X G (.Call (.Attribute o name apos) (e :: es) [] cpos) (wBM T om w ws) :=
  PE.imp (pe_bm pa slot hty hm ho ha hbase hfew hline hs hplain) fun σ H Q ⟨ρ, F, M, x, k, a, q, kt⟩ => ⟨ρ, F, M, x, _, a, q, fun v d F1 M1 H1 g1 o1 i1 ⟨ty, q1⟩ =>
    ⟨tyV_of o1 i1 ty hT, ρ, F1, M1, x, _, a.step g1 o1, q1, fun vs ds F2 M2 H2 g2 o2 i2 q2 => l F2 M2 H2 v d vs ds _ Q o2 (i1.mono g2.ex) i2 q2 fun w c F' H' g o i z => kt w c F' M2 H' ((g1.trans g2).trans g) o i z⟩⟩
end
end TV

set_option Elab.async false
set_option linter.all false
set_option maxRecDepth 100000
set_option maxHeartbeats 1000000
/-! Defs that are called where no repr of a list or tuple is under way (guards = some []): their promise, their calls. -/
namespace TV
open PySem PySem.Spec PyProof.Rows L2

/-- where a def runs: room, and no repr around -/
structure Rm (k : Nat) (A : Around) : Prop where
  room : Room k A
  grd : A.guards = some []
theorem Rm.mono {j k : Nat} {A : Around} (r : Rm k A) (h : j ≤ k) : Rm j A := ⟨r.room.mono h, r.grd⟩
theorem Rm.deeper {k : Nat} {A : Around} (r : Rm (k + 1) A) (env : Env) : Rm k (A.deeper env) := ⟨r.room.deeper env, r.grd⟩
theorem Rm.u64 {k : Nat} {A : Around} (r : Rm k A) : A.units + 64 < cLine := by have := r.room.un; omega
theorem Rm.u1 {k : Nat} {A : Around} (r : Rm k A) : A.units + 1 < cLine := by have := r.room.un; omega
theorem Rm.call : Rm 200 callerA := ⟨⟨rfl, by decide +kernel, by decide +kernel⟩, rfl⟩

structure FnG (P : Program) (w : World) (K : PySem.W.Frag) (mg : Str → Option Value) (base : Heap) (CX : CXT) (k : Nat) (f : Addr) (fd : FuncData) (ps : List Str) (sp : Sp) : Prop where
  many : ∀ vs H Q E, sp vs H Q E → vs.length = ps.length
  goes : ∀ (A : Around) (outer : List Env) (s : Shared) (H : Hp) (args : Args) (us : List Value) (vs : List V) (Q : VK) (E : XK), Rm k A → Env0 P w K mg base A outer s H → BindsTo s fd args (ps.zip us) → Vals vs us → sp vs H Q E →
    codeAny (model P w) A (.call (.ref f) args) (CR CX outer P w H s Q E) s
section
variable {P : Program} {w : World} {K : PySem.W.Frag} {mg : Str → Option Value} {base : Heap} {CX : CXT}
theorem FnG.mono {j k : Nat} {f : Addr} {fd : FuncData} {ps : List Str} {sp : Sp} (F : FnG P w K mg base CX j f fd ps sp) (h : j ≤ k) : FnG P w K mg base CX k f fd ps sp :=
  ⟨F.many, fun A outer s H args us vs Q E r => F.goes A outer s H args us vs Q E (r.mono h)⟩
theorem FnG.imp {k : Nat} {f : Addr} {fd : FuncData} {ps : List Str} {sp sp' : Sp} (F : FnG P w K mg base CX k f fd ps sp) (h : ∀ vs H Q E, sp' vs H Q E → sp vs H Q E) : FnG P w K mg base CX k f fd ps sp' :=
  ⟨fun vs H Q E q => F.many vs H Q E (h _ _ _ _ q), fun A outer s H args us vs Q E r e0 hb hv q => F.goes A outer s H args us vs Q E r e0 hb hv (h _ _ _ _ q)⟩
/-- a def of the text, by its body -/
theorem fnG_of {k : Nat} {f : Addr} {x qual : Str} {st : Stmt} {fd : FuncData} {N ps : List Str} {sp : Sp} (F : Fun K x qual st f fd) (S : FnScope N ps (defScope st)) (many : ∀ vs H Q E, sp vs H Q E → vs.length = ps.length)
    (body : ∀ (cdv : Value) (A : Around) (outer : List Env) (s : Shared) (H : Hp) (vs : List V) (Q : VK) (E : XK), Rm k (A.deeper (envOfC qual (defScope st) s.heap.objs.size f cdv)) → sp vs H Q E →
      ∃ t, PSs (cxOf CX P w K mg base N qual (defScope st) f cdv A outer s H E) (defBody st) t ∧ t { nx := fun _ H' => Q .non H', rt := Q } (L2.start N vs) H) :
    FnG P w K mg base CX (k + 1) f fd ps sp := by
  obtain ⟨oc, od, kV, doc, pm, an, cdv, ct, osl, rfl, found, coded⟩ := F.ex
  refine ⟨many, fun A outer s H args us vs Q E rm e0 bound rel asked => ?_⟩
  have count := many _ _ _ _ asked
  have inK : K.In s.heap := e0.mod.kin.keeps fun b o e => (e0.bs b o e).1
  have free : s.heap.NoLimit := e0.mod.nolimit.keeps fun b o e => (e0.bs b o e).1
  have kinds : ∀ y ∈ ps.zip us, (defScope st).names.lookup y.1 = some .local ∨ ((defScope st).names.lookup y.1 = some .cell ∧ ((cellsFrom (s.heap.objs.size + 1) (defScope st).names []).lookup y.1).isSome = true) := by
    intro ⟨n, v⟩ mem
    rcases S.par n (List.of_mem_zip mem).1 with q | q
    · exact .inl q
    · exact .inr ⟨q, PySem.W.cellsFrom_some _ _ _ (.inl q)⟩
  refine codeAny_call_function rm.room.depth (inK _ _ found) rfl S.co S.gen rfl (PySem.W.codeRec_of inK coded) (bound _ _ _ _ ?_)
  refine wpAny_newFunctionEnv_cells S.kind kinds fun env same s1 x => ?_
  subst same
  refine ⟨free.keeps x.toInCall.keep, codeAny_func ?_⟩
  obtain ⟨t, derived, holds⟩ := body cdv A outer s H vs Q E (rm.deeper _) asked
  have I := inv_start (CX := CX) (E := E) (N := N) S rm.room.hd e0 count rel x
  have ends : ∀ {σ' : L2.St} {H' : Hp} {v : V} {u : Value} {s' : Shared}, Inv (cxOf CX P w K mg base N qual (defScope st) f cdv A outer s H E) [] σ' H' s' → RelV v u → Q v H' → CE outer P w H s Q u s' :=
    fun {σ' H' v u s'} J rv q => ⟨v, H', J.os, J.bare, J.base, J.hok, rv, q⟩
  refine wpAny_mono (derived.run [] s1 (L2.start N vs) H _ I holds) (fun fl s' over => ?_) fun e s' z => z
  cases fl with
  | ret u => obtain ⟨v, σ', H', J, rv, q⟩ := over; exact ends J rv q
  | next => obtain ⟨σ', H', J, q⟩ := over; exact ends (v := V.non) (u := Value.none) J rfl q
  | brk => obtain ⟨_, _, _, q⟩ := over; exact q.elim
  | cont => obtain ⟨_, _, _, q⟩ := over; exact q.elim
end
section
variable {X : Cx} {CX : CXT} {G : XK} {k : Nat} {f : Addr} {fd : FuncData} {ps : List Str} {sp : Sp} {dvs : List V} {ds : List Value} {E : XK} {x : Str} {p pos : Pos} {e : Expr} {es : List Expr} {t : TA}
theorem goesG {pins : List (Addr × Obj)} {σ : L2.St} {H : Hp} {s : Shared} {Q : VK} {us : List Value} {vs : List V} (F : FnG X.prog X.w X.K X.mg X.base CX k f fd ps sp) (rm : Rm k X.A) (bound : Binds X.K fd ps ds) (dr : Vals dvs ds) (out : Passes CX X E)
    (I : Inv X pins σ H s) (rel : Vals vs us) (asked : sp (vs ++ dvs) H Q E) : wpAny (model X.prog X.w) X.A (call (.ref f) us) (EP X pins σ Q) X.xe s := by
  have all : Vals (vs ++ dvs) (us ++ ds) := rel.append dr
  have count : (us ++ ds).length = ps.length := by rw [← all.length]; exact F.many _ _ _ _ asked
  refine wpAny_call (codeAny_mono (F.goes X.A X.stack s H ⟨us, []⟩ (us ++ ds) (vs ++ dvs) Q E rm I.env0 (bound s us I.kIn count) all asked) fun r s' over => ?_)
  rcases r with e | fl
  · exact out pins σ H s e s' I over
  · cases fl with
    | ret u => exact I.after over
    | next => exact over.elim
    | brk => exact over.elim
    | cont => exact over.elim
theorem pe_callG (F : FnG X.prog X.w X.K X.mg X.base CX k f fd ps sp) (rm : Rm k X.A) (glob : Gl X x) (there : X.mg x = some (.ref f)) (kept : PySem.W.keepIn X.K (.ref f) = true) (bound : Binds X.K fd ps ds) (dr : Vals dvs ds) (out : Passes CX X E)
    (args : PA X (e :: es) t) (nodb : (x == ("__debug__" : Str)) = false := by decide) (plain1 : starEach (e :: es) X.env = (false, eval e X.env) :: starEach es X.env := by rfl) (plain2 : (backTo pos (starEach es X.env)).any (·.1) = false := by rfl) :
    PE X (.Call (.Name x p) (e :: es) [] pos) (tCall sp dvs E t) := by
  refine ⟨fun pins s σ H Q I h => wpAny_Call_Name_kw (ld_glob I glob there ?_ nodb)⟩
  refine PySem.W.callWith_K (h₀ := X.base) I.ok.mod.kin kept (thn (args.run pos pins s σ H _ I h) fun us s1 ⟨vs, H1, I1, r, q⟩ => ⟨I1.kIn, ?_⟩) plain1 plain2
  exact goesG F rm bound dr out I1 r q
theorem pe_callG0 (F : FnG X.prog X.w X.K X.mg X.base CX k f fd ps sp) (rm : Rm k X.A) (glob : Gl X x) (there : X.mg x = some (.ref f)) (kept : PySem.W.keepIn X.K (.ref f) = true) (bound : Binds X.K fd ps ds) (dr : Vals dvs ds) (out : Passes CX X E)
    (nodb : (x == ("__debug__" : Str)) = false := by decide) : PE X (.Call (.Name x p) [] [] pos) (tCall sp dvs E tNil) :=
  ⟨fun pins s σ H Q I h => wpAny_Call_Name_kw (ld_glob I glob there (PySem.W.callWith_K0 I.kIn kept (goesG (us := []) F rm bound dr out I .nil h)) nodb)⟩
end

/-! ### over trees -/
section
variable {X : Cx} {CX : CXT} {G : XK} {k : Nat} {f : Addr} {fd : FuncData} {ps : List Str} {sp : DSp} {x : Str} {p pos : Pos} {e : Expr} {es : List Expr} {w : DA}
theorem xcall (F : FnG X.prog X.w X.K X.mg X.base CX k f fd ps (rSp X.K sp)) (rm : Rm k X.A) (hg : Gl X x) (hm : X.mg x = some (.ref f)) (hk : PySem.W.keepIn X.K (.ref f) = true) (hb : Binds X.K fd ps []) (hx : Passes CX X G)
    (ha : XA X G (e :: es) w) (hdb : (x == ("__debug__" : Str)) = false := by decide) (he : starEach (e :: es) X.env = (false, eval e X.env) :: starEach es X.env := by rfl) (hpl : (backTo pos (starEach es X.env)).any (·.1) = false := by rfl) :
    XE X G (.Call (.Name x p) (e :: es) [] pos) (wCall sp w) :=
  PE.imp (pe_callG F rm hg hm hk hb .nil hx ha hdb he hpl) fun σ H Q ⟨ρ, F, M, x, k, a, q, kt⟩ => ⟨ρ, F, M, x, _, a, q, fun vs ds F1 M1 H1 g1 o1 i1 q1 => by
    show rSp X.K sp (vs ++ []) H1 Q G
    rw [List.append_nil]
    exact ⟨ds, F1, M1, x, k, o1, i1, q1, fun v d F2 M2 H2 g2 => kt v d F2 M2 H2 (g1.trans g2), a.xok.step g1⟩⟩
/-- .. a list is handed back that is new: the caller's own -/
theorem xcall0 (F : FnG X.prog X.w X.K X.mg X.base CX k f fd ps (rSp X.K sp)) (rm : Rm k X.A) (hg : Gl X x) (hm : X.mg x = some (.ref f)) (hk : PySem.W.keepIn X.K (.ref f) = true) (hb : Binds X.K fd ps []) (hx : Passes CX X G)
    (hdb : (x == ("__debug__" : Str)) = false := by decide) : XE X G (.Call (.Name x p) [] [] pos) (wCall sp wNil) :=
  PE.imp (pe_callG0 F rm hg hm hk hb .nil hx hdb) fun σ H Q ⟨ρ, F, M, x, k, a, q, kt⟩ => ⟨[], F, M, x, k, a.heap, .nil, q, kt, a.xok⟩
end
section
variable {P : Program} {w : World} {K : PySem.W.Frag} {mg : Str → Option Value} {base : Heap}
/-- THE RULE for a def that lets no exception out -/
theorem fnT {x qual : Str} {st : Stmt} {f : Addr} {fd : FuncData} {N ps : List Str} {k : Nat} {sp : DSp} (F : Fun K x qual st f fd) (S : FnScope N ps (defScope st)) (len : ∀ ds M x k, sp ds M x k → ds.length = ps.length)
    (hN : ps.length ≤ N.length)
    (hbody : ∀ (cdv : Value) (A : Around) (outer : List Env) (s : Shared) (H : Hp) (E : XK), Rm k (A.deeper (envOfC qual (defScope st) s.heap.objs.size f cdv)) →
      ∃ w', YSs (cxOf CX0 P w K mg base N qual (defScope st) f cdv A outer s H E).nox E0 (defBody st) w' ∧
        ∀ ds M kk, sp ds M (fun _ _ _ => False) kk → w' { nx := fun _ M => kk .non M, rt := kk } (start0 N ds) M (fun _ _ _ => False))
    (hX : ∀ ds M x kk, sp ds M x kk → sp ds M (fun _ _ _ => False) kk) :
    FnG P w K mg base CX0 (k + 1) f fd ps (rSp K sp) := by
  refine fnG_of F S (fun vs H Q E h => ?_) (fun cdv A outer s H vs Q E hr h => ?_)
  · obtain ⟨ds, F, M, x, kk, o, i, q, _⟩ := h
    rw [i.len]; exact len _ _ _ _ q
  · obtain ⟨w', hw, hq⟩ := hbody cdv A outer s H E hr
    refine ⟨_, hw.nox, ?_⟩
    obtain ⟨ds, F, M, x, kk, o, i, q, kt, xo⟩ := h
    refine ⟨start0 N ds, F, M, _, _, ⟨start_env i (by rw [len _ _ _ _ q]; exact hN), o, fun _ _ _ _ _ _ _ _ _ _ _ z => z.elim⟩, hq ds M kk (hX _ _ _ _ q), ⟨fun σ' ρ' F' M' H' g o' en z => ?_, fun v d F' M' H' g o' i' z => kt v d F' M' H' g o' i' z, fun _ _ _ _ _ _ _ _ z => z.elim, fun _ _ _ _ _ _ _ _ z => z.elim⟩⟩
    exact kt .non .non F' M' H' g o' .non z
end
end TV

set_option Elab.async false
set_option linter.all false
set_option maxRecDepth 100000
set_option maxHeartbeats 1000000
/-! repr of data; dicts; lists that grow; texts. -/
namespace TV
open PySem PySem.Spec PyProof.Rows L2

/-! ### repr -/
def keyP : Key → PyData
  | .inl i => .int i
  | .inr s => .str s
mutual
def toR : D → Option PyData
  | .non => some .none
  | .bl b => some (.bool b)
  | .int i => some (.int i)
  | .str s => some (.str s)
  | .tup ds => (toRs ds).map .tuple
  | .lst ds => (toRs ds).map .list
  | .fro ds => (toRs ds).map .list
  | .dct es => (toRe es).map .dict
  | .ins _ _ => none
  | .obj _ => none
  | .ty _ => none
def toRs : List D → Option (List PyData)
  | [] => some []
  | d :: ds => match toR d, toRs ds with
    | some p, some ps => some (p :: ps)
    | _, _ => none
def toRe : List (Key × D) → Option (List (PyData × PyData))
  | [] => some []
  | (k, d) :: es => match toR d, toRe es with
    | some p, some ps => some ((keyP k, p) :: ps)
    | _, _ => none
end
section
variable {X : Cx} {pins : List (Addr × Obj)} {σ : L2.St} {F H : Hp} {M : MS} {s : Shared}
theorem smL (o : HeapOk X.K F M H) (I : Inv X pins σ H s) {a : Addr} {xs : List V} (h : SqL X.K F a xs) : a ≠ sysModules := fun e => by
  obtain ⟨φ, h1, h2, _⟩ := o.sm
  subst e
  rcases h with (h | ⟨_, h⟩) | ⟨ob, its, n, hk, _⟩
  · rw [h2] at h; cases h
  · rw [h2] at h; cases h
  · have := (I.bs _ _ (I.mod.kin _ _ hk)).2
    rw [h1] at this; cases this
mutual
theorem readsD (o : HeapOk X.K F M H) (I : Inv X pins σ H s) : ∀ (d : D) (v : V) (u : Value) (p : PyData), IsD X.K F v d → RelV v u → toR d = some p → ∃ as, Reads s.heap u p as ∧ sysModules ∉ as
  | .non, _, _, _, .non, r, e => by cases e; cases r; exact ⟨_, .none, by simp⟩
  | .bl b, _, _, _, .bl, r, e => by cases e; cases r; exact ⟨_, .bool b, by simp⟩
  | .int i, _, _, _, .int, r, e => by cases e; obtain ⟨t, rfl⟩ := r; exact ⟨_, .int i t, by simp⟩
  | .str i, _, _, _, .str, r, e => by cases e; obtain ⟨t, rfl⟩ := r; exact ⟨_, .str i t, by simp⟩
  | .tup ds, _, _, _, .tup q rs, r, e => by
    unfold toR at e
    cases h : toRs ds with
    | none => rw [h] at e; cases e
    | some ps =>
      rw [h] at e; cases e
      cases r
      obtain ⟨its, rv, ⟨ob, ho, hc, n, hd⟩, _⟩ := I.tuple (sqt_mono o.sub q)
      obtain ⟨as, ra, na⟩ := readsDs o I ds _ its ps rs rv h
      exact ⟨_, .tuple ho hc hd ra, na⟩
  | .lst ds, _, _, _, .lst q rs, r, e => by
    unfold toR at e
    cases h : toRs ds with
    | none => rw [h] at e; cases e
    | some ps =>
      rw [h] at e; cases e
      cases r
      obtain ⟨its, rv, ⟨ob, n, ho, hc, _, hd⟩, _⟩ := I.list (.of (o.sub _ _ q))
      obtain ⟨as, ra, na⟩ := readsDs o I ds _ its ps rs rv h
      exact ⟨_, .list ho hc hd ra, fun z => (List.mem_cons.mp z).elim (fun y => smL o I (.of q) y.symm) na⟩
  | .fro ds, _, _, _, .fro q rs, r, e => by
    unfold toR at e
    cases h : toRs ds with
    | none => rw [h] at e; cases e
    | some ps =>
      rw [h] at e; cases e
      cases r
      obtain ⟨its, rv, ⟨ob, n, ho, hc, _, hd⟩, _⟩ := I.list (sql_mono o.sub q)
      obtain ⟨as, ra, na⟩ := readsDs o I ds _ its ps rs rv h
      exact ⟨_, .list ho hc hd ra, fun z => (List.mem_cons.mp z).elim (fun y => smL o I q y.symm) na⟩
  | .dct es, _, _, _, .dct q rs, r, e => by
    unfold toR at e
    cases h : toRe es with
    | none => rw [h] at e; cases e
    | some ps =>
      rw [h] at e; cases e
      cases r
      obtain ⟨hz, hS, vs, rel, ob, ds, ep, ho, hx, hd, hK, hP, hn⟩ := I.hok _ _ (o.sub _ _ q)
      obtain ⟨as, bs, ra, rb, na, nb⟩ := readsEs o I es _ vs ds.toList ps rs rel hP h
      exact ⟨_, .dict ho hx.1 hd ra rb, fun z => by
        rcases List.mem_cons.mp z with y | y
        · rw [y] at hS; simp at hS
        · rcases List.mem_append.mp y with y | y
          · exact na y
          · exact nb y⟩
theorem readsDs (o : HeapOk X.K F M H) (I : Inv X pins σ H s) : ∀ (ds : List D) (vs : List V) (us : List Value) (ps : List PyData), IsDs X.K F vs ds → Vals vs us → toRs ds = some ps → ∃ as, ReadsAll s.heap us ps as ∧ sysModules ∉ as
  | [], _, _, _, .nil, r, e => by unfold toRs at e; cases e; cases r; exact ⟨_, .nil, by simp⟩
  | d :: ds, _, _, _, .cons i rs, r, e => by
    unfold toRs at e
    cases h1 : toR d with
    | none => rw [h1] at e; simp at e
    | some p =>
      cases h2 : toRs ds with
      | none => rw [h1, h2] at e; simp at e
      | some ps =>
        rw [h1, h2] at e; cases e
        cases r with
        | cons r1 r2 =>
          obtain ⟨as, ra, na⟩ := readsD o I d _ _ p i r1 h1
          obtain ⟨bs, rb, nb⟩ := readsDs o I ds _ _ ps rs r2 h2
          exact ⟨_, .cons ra rb, fun z => (List.mem_append.mp z).elim na nb⟩
theorem readsEs (o : HeapOk X.K F M H) (I : Inv X pins σ H s) : ∀ (es : List (Key × D)) (kvs : List (Key × V)) (vs : List (Key × Value)) (ds : List DictEntry) (ps : List (PyData × PyData)), IsEs X.K F kvs es → KV kvs vs → Pairs (mixKind X.prog X.w) ds vs → toRe es = some ps →
    ∃ as bs, ReadsAll s.heap (ds.map (·.key)) (ps.map (·.1)) as ∧ ReadsAll s.heap (ds.map (·.val)) (ps.map (·.2)) bs ∧ sysModules ∉ as ∧ sysModules ∉ bs
  | [], _, _, _, _, .nil, r, pr, e => by
    unfold toRe at e; cases e; cases r
    cases pr
    exact ⟨_, _, .nil, .nil, by simp, by simp⟩
  | (k, d) :: es, _, _, _, _, .cons i rs, r, pr, e => by
    unfold toRe at e
    cases h1 : toR d with
    | none => rw [h1] at e; simp at e
    | some p =>
      cases h2 : toRe es with
      | none => rw [h1, h2] at e; simp at e
      | some ps =>
        rw [h1, h2] at e; cases e
        cases r with
        | cons r1 r2 =>
          cases pr with
          | @cons e0 _ _ _ hk hv pr =>
            obtain ⟨rk, rv⟩ := r1
            obtain ⟨as, ra, na⟩ := readsD o I d _ _ p i rv h1
            obtain ⟨bs, cs, rb, rc, nb, nc⟩ := readsEs o I es _ _ _ ps rs r2 pr h2
            dsimp only at rk
            rw [← rk] at hk
            have key : ∃ ks, Reads s.heap e0.key (keyP k) ks ∧ sysModules ∉ ks := by
              rcases keyIs_shape hk with ⟨j, t, e1, e2⟩ | ⟨j, t, e1, e2⟩
              · rw [e2]; subst e1; exact ⟨_, .int j t, by simp⟩
              · rw [e2]; subst e1; exact ⟨_, .str j t, by simp⟩
            obtain ⟨ks, rk, nk⟩ := key
            refine ⟨_, _, .cons rk rb, .cons (by show Reads s.heap e0.val p as; rw [hv]; exact ra) rc, fun z => (List.mem_append.mp z).elim nk nb, fun z => (List.mem_append.mp z).elim na nc⟩
end
end
theorem view_R {K : PySem.W.Frag} {F H : Hp} {M : MS} {v : V} {d : D} {p : PyData} (o : HeapOk K F M H) (i : IsD K F v d) (e : toR (view M d) = some p) : ∃ F' d', Same F F' ∧ IsD K F' v d' ∧ toR d' = some p ∧ ∃ M', HeapOk K F' M' H := by
  rcases seen o i with ⟨a, rfl, rfl, ⟨ds, xs, em, e', hh, r⟩ | ⟨es, kvs, em, e', hh, r⟩ | ⟨C, fs, dx, gs, _, e', _⟩ | ⟨_, e'⟩⟩ | ⟨_, e'⟩
  · have nf := (o.mu a _ em).1
    exact ⟨upd F a (.lst xs), .lst ds, Same.upd nf, .lst upd_same (r.mono (Same.upd nf)), by rw [← e']; exact e, _, o.melt em hh⟩
  · have nf := (o.mu a _ em).1
    exact ⟨upd F a (.dK kvs), .dct es, Same.upd nf, .dct upd_same (r.mono (Same.upd nf)), by rw [← e']; exact e, _, o.melt em hh⟩
  · rw [e'] at e; unfold toR at e; cases e
  · rw [e'] at e; unfold toR at e; cases e
  · exact ⟨F, d, fun _ _ h => h, i, by rw [← e']; exact e, M, o⟩
/-- repr(x) -/
def reprC : OC := fun M ds q => ∃ d p, ds = [d] ∧ toR (view M d) = some p ∧ p.showable = true ∧ p.depth ≤ 60 ∧ p.shown.length ≤ 1000000 ∧ q (.str p.shown)
def rRepr (K : PySem.W.Frag) : List V → Hp → VK → Prop := fun xs H Q => ∃ F M v d p, HeapOk K F M H ∧ xs = [v] ∧ IsD K F v d ∧ toR d = some p ∧ p.showable = true ∧ p.depth ≤ 60 ∧ p.shown.length ≤ 1000000 ∧ Q (.str p.shown) H
theorem call_repr {X : Cx} {k : Nat} (rm : Rm k X.A) : CallR X (.builtin "repr") (rRepr X.K) := by
  intro pins s σ H xs us Q I rv ⟨F, M, v, d, p, o, e1, i, e, hs, hd, hl, q⟩
  subst e1
  obtain ⟨u, rfl, r⟩ := vals1 rv
  have u64 := rm.u64
  have hz : p.shown.length ≤ sizeLine := Nat.le_trans hl (by decide)
  obtain ⟨as, rd, na⟩ := readsD o I d v u p i r e
  have fin : ∀ (h' : Heap) (t : Tok) (tk : Nat), (∀ b o, s.heap.get? b = some o → h'.get? b = some o) → EP X pins σ Q (.str p.shown t) { s with heap := h', toks := tk } := fun h' t tk hk => ⟨.str p.shown, H, I.kept hk, ⟨t, rfl⟩, q⟩
  cases rd with
  | none => exact PySem.P.repr_of_none ⟨.str (PyData.none).shown, H, I.tok _, ⟨s.toks, by rw [PyData.shown_none]⟩, q⟩
  | bool b => exact PySem.P.repr_of_bool ⟨.str (PyData.bool b).shown, H, I.tok _, ⟨s.toks, by rw [PyData.shown_bool]⟩, q⟩
  | int j t => exact PySem.P.repr_of_int (by simpa [PyData.showable] using hs) ⟨.str (PyData.int j).shown, H, I.tok _, ⟨s.toks, by simp only [PyData.shown]⟩, q⟩
  | str x t => exact PySem.P.repr_of_str ⟨.str (PyData.str x).shown, H, I.tok _, ⟨s.toks, by simp only [PyData.shown]⟩, q⟩ (by simpa only [PyData.shown] using hz)
  | list h1 h2 h3 h4 => exact repr_of_reads' (.list h1 h2 h3 h4) hs (fun _ => na) rm.grd (by omega) (fun _ _ h => h) (fun h' u tk hk => fin h' u tk hk) hz
  | tuple h1 h2 h3 h4 => exact repr_of_reads' (.tuple h1 h2 h3 h4) hs (fun _ => na) rm.grd (by omega) (fun _ _ h => h) (fun h' u tk hk => fin h' u tk hk) hz
  | dict h1 h2 h3 h4 h5 => exact repr_of_reads' (.dict h1 h2 h3 h4 h5) hs (fun _ => na) rm.grd (by omega) (fun _ _ h => h) (fun h' u tk hk => fin h' u tk hk) hz
theorem l_reprC {X : Cx} : LiftsC X.K reprC (rRepr X.K) := fun F M H vs ds q Q o i ⟨d, p, ed, e, hs, hd, hl, h⟩ kt => by
  subst ed
  obtain ⟨v, rfl, iv⟩ := isDs1 i
  obtain ⟨F', d', _, i', e', M', o'⟩ := view_R o iv e
  exact ⟨F', M', v, d', p, o', rfl, i', e', hs, hd, hl, kt _ _ F H .refl o .str h⟩

/-! ### dicts by known keys -/
def valD (es : List (Key × D)) (k : Key) : Option D := (es.find? fun e => decide (e.1 = k)).map (·.2)
def putD (es : List (Key × D)) (k : Key) (d : D) : List (Key × D) :=
  if (es.any fun e => decide (e.1 = k)) = true then es.map (fun e => if e.1 = k then (e.1, d) else e) else es ++ [(k, d)]
theorem val_v {K : PySem.W.Frag} {F : Hp} {k : Key} : ∀ {kvs es}, IsEs K F kvs es → (∀ d, valD es k = some d → ∃ v, valV kvs k = some v ∧ IsD K F v d) ∧ (valV kvs k).isSome = (valD es k).isSome
  | _, _, .nil => ⟨fun d e => by simp [valD] at e, rfl⟩
  | (j, v) :: kvs, (_, d) :: es, .cons i r => by
    obtain ⟨h1, h2⟩ := val_v (k := k) r
    unfold valV valD at *
    by_cases e : j = k
    · rw [List.find?_cons_of_pos (by simpa using e), List.find?_cons_of_pos (by simpa using e)]
      exact ⟨fun d' e' => by cases e'; exact ⟨_, rfl, i⟩, rfl⟩
    · rw [List.find?_cons_of_neg (by simpa using e), List.find?_cons_of_neg (by simpa using e)]
      exact ⟨h1, h2⟩
theorem any_v {K : PySem.W.Frag} {F : Hp} {k : Key} : ∀ {kvs es}, IsEs K F kvs es → (kvs.any fun e => decide (e.1 = k)) = (es.any fun e => decide (e.1 = k))
  | _, _, .nil => rfl
  | _, _, .cons i r => by rw [List.any_cons, List.any_cons, any_v r]
theorem map_v {K : PySem.W.Frag} {F : Hp} {k : Key} {v : V} {d : D} (q : IsD K F v d) : ∀ {kvs es}, IsEs K F kvs es → IsEs K F (kvs.map fun e => if e.1 = k then (e.1, v) else e) (es.map fun e => if e.1 = k then (e.1, d) else e)
  | _, _, .nil => .nil
  | (j, v') :: kvs, (_, d') :: es, .cons i r => by
    rw [List.map_cons, List.map_cons]
    by_cases e : j = k
    · rw [if_pos e, if_pos e]; exact .cons q (map_v q r)
    · rw [if_neg e, if_neg e]; exact .cons i (map_v q r)
theorem IsEs.app {K : PySem.W.Frag} {F : Hp} : ∀ {xs ds ys es}, IsEs K F xs ds → IsEs K F ys es → IsEs K F (xs ++ ys) (ds ++ es)
  | _, _, _, _, .nil, q => q
  | _, _, _, _, .cons h r, q => .cons h (r.app q)
theorem IsEs.len {K : PySem.W.Frag} {F : Hp} : ∀ {xs ds}, IsEs K F xs ds → xs.length = ds.length
  | _, _, .nil => rfl
  | _, _, .cons _ r => congrArg (· + 1) r.len
theorem put_v {K : PySem.W.Frag} {F : Hp} {k : Key} {v : V} {d : D} (q : IsD K F v d) {kvs es} (r : IsEs K F kvs es) : IsEs K F (putK kvs k v) (putD es k d) := by
  unfold putK putD
  rw [any_v r]
  split
  · exact map_v q r
  · exact r.app (.cons q .nil)
/-- a key: an int, a text -/
def keyD : D → Option Key
  | .int i => some (.inl i)
  | .str s => some (.inr s)
  | _ => none
theorem key_v {K : PySem.W.Frag} {F : Hp} {v : V} {d : D} {k : Key} (i : IsD K F v d) (e : keyD d = some k) : v = kV k := by
  cases i <;> first | (cases e; rfl) | (cases e; done)
section
variable {X : Cx} {G : XK} {o i e : Expr} {wo wi we : DE} {pos pos' : Pos}
def dgetD : OD := fun M d e q => ∃ es k c, view M d = .dct es ∧ keyD e = some k ∧ valD es k = some c ∧ q c
def wDget (wo wi : DE) : DE := fun ρ M x k => wo ρ M x fun d M1 => wi ρ M1 x fun e M2 => dgetD M2 d e fun c => k c M2
theorem xe_dget (hu : X.A.units + 1 < cLine) (ho : XE X G o wo) (hi : XE X G i wi) (hs : NoSl i) : XE X G (.Subscript o i pos) (wDget wo wi) :=
  PE.imp (pe_dget hu ho hi hs) fun σ H Q ⟨ρ, F, M, x, k, a, q, kt⟩ => ⟨ρ, F, M, x, _, a, q, fun v d F1 M1 H1 g1 o1 i1 q1 => ⟨ρ, F1, M1, x, _, a.step g1 o1, q1, fun u e F2 M2 H2 g2 o2 i2 ⟨es, k, c, ev, ek, ec, q2⟩ => by
    obtain ⟨p, kvs, rfl, hp, r⟩ := asDct o2 (i1.mono g2.ex) ev
    obtain rfl := key_v i2 ek
    obtain ⟨w, ew, iw⟩ := (val_v r).1 c ec
    exact ⟨p, w, rfl, by rw [← ew]; exact .k hp, kt _ _ F2 M2 H2 (g1.trans g2) o2 iw q2⟩⟩⟩
/-- d[k] = v, d in the store -/
def wDput (wo wi we : DE) : DS := fun E ρ M x => we ρ M x fun c M1 => wo ρ M1 x fun d M2 => wi ρ M2 x fun e M3 => ∃ p es k, d = .obj p ∧ M3 p = some (.dct es) ∧ keyD e = some k ∧ es.length < 100000 ∧ E.nx ρ (updM M3 p (.dct (putD es k c)))
theorem ys_dput (hu : X.A.units + 1 < cLine) (ho : XE X G o wo) (hi : XE X G i wi) (hv : XE X G e we) (hs : swapsWith e (some (.Subscript o i pos')) pos.line X.env = pure false := by rfl) : YS X G (.Assign [.Subscript o i pos'] e pos) (wDput wo wi we) :=
  PS.imp (ps_dput hu ho hi hv hs) fun D σ H ⟨ρ, F, M, x, E, a, q, et⟩ => ⟨ρ, F, M, x, _, a, q, fun v c F1 M1 H1 g1 o1 i1 q1 => ⟨ρ, F1, M1, x, _, a.step g1 o1, q1, fun u d F2 M2 H2 g2 o2 i2 q2 => ⟨ρ, F2, M2, x, _, a.step (g1.trans g2) o2, q2, fun y e F3 M3 H3 g3 o3 i3 ⟨p, es, k, ed, em, ek, hl, q3⟩ => by
    subst ed
    cases i2
    obtain rfl := key_v i3 ek
    obtain ⟨nf, ob, hp, mo⟩ := o3.mu p _ em
    cases mo with
    | dct r =>
      have gg := ((g1.trans g2).trans g3)
      exact ⟨p, _, rfl, .k hp (by rw [r.len]; exact Nat.lt_of_lt_of_le hl (by decide)), et.nx σ ρ F3 _ _ (gg.trans (Gr.put em)) (o3.put nf (.dct (put_v (i1.mono (g2.trans g3).ex) r)) (o3.mS em)) (a.env.mono gg.ex) q3⟩⟩⟩⟩
/-- a written dict of text keys -/
def wPairs : List (Str × DE) → DSt → MS → XD → (List (Key × D) → MS → Prop) → Prop
  | [], _, M, _, k => k [] M
  | (s, w) :: r, ρ, M, x, k => w ρ M x fun d M1 => wPairs r ρ M1 x fun es M2 => k ((.inr s, d) :: es) M2
def trs (K : PySem.W.Frag) (G : XK) : List (Str × DE) → List (TE × TE)
  | [] => []
  | (s, w) :: r => (tC (.str s), rE K G w) :: trs K G r
theorem pairs_of {K : PySem.W.Frag} : ∀ (l : List (Str × DE)) {σ : L2.St} {ρ : DSt} {F : Hp} {M : MS} {H : Hp} {x : XD} {k : List (Key × D) → MS → Prop} {Q : List (V × V) → Hp → Prop}, At K G σ ρ F M H x → wPairs l ρ M x k →
    (∀ kvs es F' M' H', Gr F M H F' M' H' → HeapOk K F' M' H' → IsEs K F' kvs es → kvs.length = l.length → k es M' → Q (kvs.map fun e => (kV e.1, e.2)) H') → tPairs (trs K G l) σ H Q
  | [], σ, ρ, F, M, H, x, k, Q, a, q, kt => kt [] [] F M H .refl a.heap .nil rfl q
  | (s, w) :: r, σ, ρ, F, M, H, x, k, Q, a, q, kt => ⟨ρ, F, M, x, _, a, q, fun v d F1 M1 H1 g1 o1 i1 q1 => pairs_of r (a.step g1 o1) q1 fun kvs es F2 M2 H2 g2 o2 i2 hl q2 =>
    kt ((.inr s, v) :: kvs) _ F2 M2 H2 (g1.trans g2) o2 (.cons (i1.mono g2.ex) i2) (by simp [hl]) q2⟩
theorem merge_v {K : PySem.W.Frag} {F : Hp} : ∀ {more rs kvs es}, IsEs K F more rs → IsEs K F kvs es → IsEs K F (mergeK kvs more) (rs.foldl (fun acc e => putD acc e.1 e.2) es)
  | _, _, _, _, .nil, r => r
  | _, _, kvs, es, .cons (k := k) (x := x) (xs := xs) (d := d) (ds := ds) i q, r => by
    show IsEs K F (mergeK (putK kvs k x) xs) (ds.foldl (fun acc e => putD acc e.1 e.2) (putD es k d))
    exact merge_v q (put_v i r)
def dictOf (es : List (Key × D)) : List (Key × D) := es.foldl (fun acc e => putD acc e.1 e.2) []
/-- .. into the store -/
def wDictM (l : List (Str × DE)) : DE := fun ρ M x k => wPairs l ρ M x fun es M1 => ∀ p, M1 p = none → k (.obj p) (updM M1 p (.dct (dictOf es)))
theorem xe_dictM {keys : List (Option Expr)} {values : List Expr} {l : List (Str × DE)} (h : PPs X pos keys values (trs X.K G l)) (hall : keys.all (·.isSome) = true) (hl : keys.length = values.length) (h0 : keys ≠ []) (h15 : keys.length ≤ 15) (hk : l.length ≤ 15) : XE X G (.Dict keys values pos) (wDictM l) :=
  PE.imp (pe_disp h hall hl h0 h15) fun σ H Q ⟨ρ, F, M, x, k, a, q, kt⟩ p hp => by
    have a1 : At X.K G σ ρ F M (upd H p (.dK [])) x := ⟨a.env, a.heap.newU hp, a.xok.step (Gr.newU hp)⟩
    refine pairs_of l a1 q fun kvs es F1 M1 H1 g1 o1 i1 hlen q1 => ?_
    have e1 : H1 p = some (.dK []) := g1.fr p _ upd_same (a.heap.noF hp) (a.heap.noM hp)
    have f1 : F1 p = none := g1.keepF upd_same (a.heap.noF hp) (a.heap.noM hp)
    have m1 : M1 p = none := g1.keepM upd_same (a.heap.noM hp)
    have ns := a.heap.noS hp
    refine ⟨e1, kvs, rfl, by rw [hlen]; exact hk, kt _ _ F1 (updM M1 p (.dct (dictOf es))) _ ?_ (o1.put f1 (.dct (merge_v i1 .nil)) ns) .obj (q1 p m1)⟩
    exact (((Gr.newU hp).trans g1).adoptM hp).setU hp
theorem xps_nil : PPs X pos [] [] (trs X.K G []) := pps_nil
theorem xps_cons {s : Str} {j : Nat} {p0 : Pos} {v : Expr} {ks : List (Option Expr)} {vs : List Expr} {w : DE} {l : List (Str × DE)} (hv : XE X G v w) (hr : PPs X pos ks vs (trs X.K G l)) : PPs X pos (some (.Constant (.str s) j p0) :: ks) (v :: vs) (trs X.K G ((s, w) :: l)) := pps_cons pe_str hv hr
end
end TV

set_option Elab.async false
set_option linter.all false
set_option maxRecDepth 100000
set_option maxHeartbeats 1000000
namespace TV
open PySem PySem.Spec PyProof.Rows L2

section
variable {X : Cx}
/-! ### products -/
theorem mulOk_of {x : Str} {n : Int} (h1 : -1000000 ≤ n) (h2 : n ≤ 1000000) (h3 : x.length * n.toNat ≤ 1000000) : MulOk x n := by
  have hs : sizeLine = 16777216 := sizeLine_eq
  refine ⟨?_, fun h0 h => ?_, fun h0 h => ?_⟩
  · have e1 : decide (n < -(2 ^ 63 : Int)) = false := decide_eq_false (by omega)
    have e2 : decide (n ≥ 2 ^ 63) = false := decide_eq_false (by omega)
    rw [e1, e2]; rfl
  · have hn : 0 < n := by omega
    intro z
    have h4 : (x.length : Int) * n ≤ 1000000 := by
      have : ((x.length * n.toNat : Nat) : Int) ≤ 1000000 := by omega
      rw [Int.natCast_mul, Int.toNat_of_nonneg (by omega)] at this
      exact this
    have h5 : (x.length : Int) ≤ (2 ^ 63 - 1) / n := by
      rw [Int.le_ediv_iff_mul_le hn]
      omega
    omega
  · unfold Builtin.Str.tooLong
    simp
    omega
def rMulS : R2 := fun x y H Q => ∃ a n, x = .str a ∧ y = .int n ∧ MulOk a n ∧ Q (.str (Txt.mul a n)) H
theorem op_mulS : OpR X (binaryOp .Mult) rMulS := by
  intro pins s σ H x y v u Q I rx ry ⟨a, n, e1, e2, ok, q⟩
  subst e1 e2
  obtain ⟨t, rfl⟩ := rx
  obtain ⟨t', rfl⟩ := ry
  exact SB.mul ok fun t2 k => ⟨.str _, H, I.tok k, ⟨t2, rfl⟩, q⟩
def mulD : OD := fun M d e q => match d, e with
  | .int i, .int j => CMulW i j ∧ q (.int (i * j))
  | .str s, .int n => -1000000 ≤ n ∧ n ≤ 1000000 ∧ s.length * n.toNat ≤ 1000000 ∧ q (.str (Txt.mul s n))
  | .lst ds, .int n => 0 ≤ n ∧ n ≤ 100000 ∧ ds.length * n.toNat ≤ 100000 ∧ q (.lst (List.replicate n.toNat ds).flatten)
  | _, _ => False
def rMulD : R2 := fun x y H Q => (L2.rI CMulW (fun i j => .int (i * j)) x y H Q ∨ rMulS x y H Q) ∨ rRep x y H Q
theorem op_mulD : OpR X (binaryOp .Mult) rMulD := (op_mulW.or op_mulS).or op_rep
theorem IsDs.rep {K : PySem.W.Frag} {F : Hp} {xs : List V} {ds : List D} (h : IsDs K F xs ds) : ∀ n : Nat, IsDs K F (List.replicate n xs).flatten (List.replicate n ds).flatten
  | 0 => .nil
  | n + 1 => by
    rw [List.replicate_succ, List.replicate_succ, List.flatten_cons, List.flatten_cons]
    exact h.app (h.rep n)
theorem l_mulD : Lifts X.K mulD rMulD := fun F M H v u d e q Q o i1 i2 h kt => by
  unfold mulD at h
  split at h
  · obtain rfl := isD_int i1
    obtain rfl := isD_int i2
    exact .inl (.inl ⟨_, _, rfl, rfl, h.1, kt _ _ F H .refl o .int h.2⟩)
  · obtain rfl := isD_str i1
    obtain rfl := isD_int i2
    exact .inl (.inr ⟨_, _, rfl, rfl, mulOk_of h.1 h.2.1 h.2.2.1, kt _ _ F H .refl o .str h.2.2.2⟩)
  · obtain rfl := isD_int i2
    obtain ⟨p, xs, rfl, hp, r⟩ := asLst o i1 rfl
    exact .inr ⟨p, _, xs, rfl, rfl, hp, by omega, by omega, by rw [r.len]; exact sz5 h.2.2.1, fun z hz => kt _ _ (upd F z _) _ (.frz (o.noF hz) hz) (o.frz hz) (.lst upd_same ((r.rep _).mono (Same.upd (o.noF hz)))) h.2.2.2⟩
  · exact h.elim

/-! ### list(x), tuple(x) -/
def wListC (w : DA) : DA := fun ρ M x k => w ρ M x fun ds M1 => ∃ d es, ds = [d] ∧ (view M1 d = .lst es ∨ d = .fro es ∨ d = .tup es) ∧ k es M1
theorem xl_list {G : XK} {e : Expr} {w : DA} {p pos : Pos} (hg : Gl X "list") (hm : X.mg "list" = none) (ha : XA X G [e] w) (he : starEach [e] X.env = (false, eval e X.env) :: starEach [] X.env := by rfl) : XL X G (.Call (.Name "list" p) [e] [] pos) (wListC w) :=
  PE.imp (pe_callTy call_list_of hg hm (by decide +kernel) ha (by decide) (by decide) he (by rfl)) fun σ H Q ⟨ρ, F, M, x, k, a, q, kt⟩ => ⟨ρ, F, M, x, _, a, q, fun vs ds F1 M1 H1 g1 o1 i1 ⟨d, es, ed, ev, q1⟩ => by
    subst ed
    obtain ⟨v, rfl, iv⟩ := isDs1 i1
    have fin : ∀ p xs, v = .ref p → (SqL X.K H1 p xs ∨ SqT X.K H1 p xs) → IsDs X.K F1 xs es → ∃ p ys, [v] = [.ref p] ∧ (SqL X.K H1 p ys ∨ SqT X.K H1 p ys) ∧ ∀ l, H1 l = none → Q (.ref l) (upd H1 l (.lst ys)) := fun p xs ep hp r =>
      ⟨p, xs, by rw [ep], hp, fun z hz => kt z _ _ F1 M1 _ (g1.trans (.newU hz)) (o1.newU hz) (fresh0 g1 hz) upd_same (o1.noF hz) (o1.noM hz) r q1⟩
    rcases ev with ev | ev | ev
    · obtain ⟨p, xs, ep, hp, r⟩ := asLst o1 iv ev
      exact fin p xs ep (.inl (.of hp)) r
    · subst ev
      cases iv with
      | fro s r => exact fin _ _ rfl (.inl (sql_mono o1.sub s)) r
    · subst ev
      obtain ⟨p, xs, ep, hp, r, _⟩ := asTup o1 iv rfl
      exact fin p xs ep (.inr hp) r⟩
def tupleC : OC := fun M ds q => ∃ d es, ds = [d] ∧ (view M d = .lst es ∨ d = .tup es) ∧ q (.tup es)
theorem l_tupleC : LiftsC X.K tupleC (fun xs H Q => ∃ p ys, xs = [.ref p] ∧ ((SqL X.K H p ys ∧ ∀ l, H l = none → Q (.ref l) (upd H l (.tup ys))) ∨ (SqT X.K H p ys ∧ Q (.ref p) H))) := fun F M H vs ds q Q o i ⟨d, es, ed, ev, h⟩ kt => by
  subst ed
  obtain ⟨v, rfl, iv⟩ := isDs1 i
  rcases ev with ev | ev
  · obtain ⟨p, xs, rfl, hp, r⟩ := asLst o iv ev
    exact ⟨p, xs, rfl, .inl ⟨.of hp, fun z hz => kt _ _ (upd F z _) _ (.frz (o.noF hz) hz) (o.frz hz) (.tup (.of upd_same) (r.mono (Same.upd (o.noF hz)))) h⟩⟩
  · subst ev
    obtain ⟨p, xs, rfl, hp, r, _⟩ := asTup o iv rfl
    exact ⟨p, xs, rfl, .inr ⟨hp, kt _ _ F H .refl o iv h⟩⟩
/-! ### abs, int, str of ints -/
def absC : OC := fun M ds q => ∃ i, ds = [.int i] ∧ q (.int (if i < 0 then -i else i))
theorem l_absC : LiftsC X.K absC (fun xs H Q => ∃ i, xs = [.int i] ∧ Q (.int (if i < 0 then -i else i)) H) := fun F M H vs ds q Q o i ⟨j, ed, h⟩ kt => by
  subst ed
  obtain ⟨v, rfl, iv⟩ := isDs1 i
  obtain rfl := isD_int iv
  exact ⟨j, rfl, kt _ _ F H .refl o .int h⟩
def intC : OC := fun M ds q => ∃ d, ds = [d] ∧ match d with
  | .int i => q (.int i)
  | .bl b => q (.int (if b then 1 else 0))
  | _ => False
theorem l_intC : LiftsC X.K intC (fun xs H Q => (∃ i, xs = [.int i] ∧ Q (.int i) H) ∨ ∃ k, xs = [.bl k] ∧ Q (.int (if k then 1 else 0)) H) := fun F M H vs ds q Q o i ⟨d, ed, h⟩ kt => by
  subst ed
  obtain ⟨v, rfl, iv⟩ := isDs1 i
  split at h
  · obtain rfl := isD_int iv
    exact .inl ⟨_, rfl, kt _ _ F H .refl o .int h⟩
  · obtain rfl := isD_bl iv
    exact .inr ⟨_, rfl, kt _ _ F H .refl o .int h⟩
  · exact h.elim
def strIC : OC := fun M ds q => ∃ i : Int, ds = [.int i] ∧ i.natAbs.log2 < 1920 ∧ q (.str (toString i))
theorem l_strIC : LiftsC X.K strIC (fun xs H Q => ∃ i : Int, xs = [.int i] ∧ i.natAbs.log2 < 1920 ∧ Q (.str (toString i)) H) := fun F M H vs ds q Q o i ⟨j, ed, hz, h⟩ kt => by
  subst ed
  obtain ⟨v, rfl, iv⟩ := isDs1 i
  obtain rfl := isD_int iv
  exact ⟨j, rfl, hz, kt _ _ F H .refl o .str h⟩
/-! ### isinstance of a tuple of built-in types -/
def tyNames : List String := ["NoneType", "bool", "int", "str", "tuple", "list", "dict"]
def isT (t n : String) : Bool := t == n || (t == "bool" && n == "int")
theorem kit_all : ∀ t ∈ tyNames, ∀ n ∈ tyNames, kitB t n = some (isT t n) := by decide +kernel
theorem tyD_mem {d : D} {t : String} (h : tyD d = some t) : t ∈ tyNames := by
  cases d <;> cases h <;> decide
/-- isinstance of one built-in type: the answer -/
def isiC' : OC := fun M ds q => ∃ d n t, ds = [d, .ty n] ∧ tyD (view M d) = some t ∧ n ∈ tyNames ∧ q (.bl (isT t n))
theorem l_isi : LiftsC X.K isiC' (rIsi X.K) := fun F M H vs ds q Q o i ⟨d, n, t, ed, et, hn, h⟩ kt =>
  l_isiC F M H vs ds q Q o i ⟨d, n, t, isT t n, ed, et, kit_all t (tyD_mem et) n hn, h⟩ kt
theorem kitAny_all {K : PySem.W.Frag} {t : String} (ht : t ∈ tyNames) : ∀ ns : List String, (∀ n ∈ ns, n ∈ tyNames) → PySem.W.kitAny K (.type t) (ns.map Value.type) = some (ns.any (isT t))
  | [], _ => rfl
  | n :: ns, h => kitAny_cons (kit_ty (kit_all t ht n (h n (by simp)))) (fun e => by
      rw [List.any_cons, e, Bool.false_or]
      exact kitAny_all ht ns fun m hm => h m (by simp [hm])) fun e => by rw [List.any_cons, e, Bool.true_or]
def wIsiT (ns : List String) (w : DE) : DE := fun ρ M x k => w ρ M x fun d M1 => ∃ t, tyD (view M1 d) = some t ∧ k (.bl (ns.any (isT t))) M1
theorem paired_ty : ∀ ns : List String, Paired ClsV (ns.map V.ty) (ns.map Value.type)
  | [] => .nil
  | n :: ns => .cons (.ty n) (paired_ty ns)
theorem xe_isiT {G : XK} {e : Expr} {tys : List Expr} {w : DE} {tt : TA} (ns : List String) {k1 : Nat} {p p2 pos : Pos} (hg : Gl X "isinstance") (hm : X.mg "isinstance" = none) (he : XE X G e w) (ht : PA X tys tt) (hc : ∀ σ H Q, Q (ns.map V.ty) H → tt σ H Q) (hn : ∀ n ∈ ns, n ∈ tyNames) (hz : ns.length ≤ 1000)
    (h1 : starEach [e, .Tuple tys k1 p2] X.env = (false, eval e X.env) :: starEach [.Tuple tys k1 p2] X.env := by rfl) (h2 : starEach [.Tuple tys k1 p2] X.env = (false, eval (.Tuple tys k1 p2) X.env) :: starEach [] X.env := by rfl)
    (hpl : (backTo pos (starEach [.Tuple tys k1 p2] X.env)).any (·.1) = false := by rfl) : XE X G (.Call (.Name "isinstance" p) [e, .Tuple tys k1 p2] [] pos) (wIsiT ns w) :=
  PE.imp (pe_callB call_isiT hg hm (by decide +kernel) (pa_cons he (pa_cons (pe_tup ht) pa_nil h2) h1) (by decide) (by decide) h1 hpl) fun σ H Q ⟨ρ, F, M, x, k, a, q, kt⟩ => ⟨ρ, F, M, x, _, a, q, fun v d F1 M1 H1 g1 o1 i1 ⟨t, et, q1⟩ => hc _ _ _ ⟨by rw [List.length_map]; exact sz5 (by omega), fun z hz => by
    have iz : IsD X.K (upd F1 z (.tup (ns.map V.ty))) v d := i1.mono (Same.upd (o1.noF hz))
    exact ⟨v, z, _, .type t, _, _, rfl, upd_same, paired_ty ns, ty_of (o1.frz hz) iz et, kitAny_all (tyD_mem et) ns hn, kt _ _ _ M1 _ (g1.trans (.frz (o1.noF hz) hz)) (o1.frz hz) .bl q1⟩⟩⟩
end

/-! ### lists that grow, lists that are changed by place -/
section
variable {X : Cx} {G : XK} {o i e : Expr} {wo wi we : DE} {pos pos' apos cpos : Pos}
/-- xs.append(e), xs in the store -/
def wApp (wo we : DE) : DE := fun ρ M x k => wo ρ M x fun d M1 => ∃ p, d = .obj p ∧ (∃ ds0, M1 p = some (.lst ds0)) ∧ we ρ M1 x fun c M2 => ∃ ds, M2 p = some (.lst ds) ∧ ds.length < 100000 ∧ k .non (updM M2 p (.lst (ds ++ [c])))
theorem xe_append (ho : XE X G o wo) (he : XE X G e we)
    (hbase : attributeBase o "append" X.env (eval o X.env) = eval o X.env := by rfl)
    (hfew : ((backTo cpos (starEach [e] X.env)).all (fun x => !x.1) && (backToKw cpos (keywordEach [] X.env)).all (fun x => x.1.isSome)
      && decide (([e] : List Expr).length + ([] : List Keyword).length + (if ([] : List Keyword).isEmpty then 0 else 1) < 30)) = true := by rfl)
    (hline : (apos.endLine == cpos.line) = true := by rfl) (hs : starEach [e] X.env = (false, eval e X.env) :: starEach [] X.env := by rfl) :
    XE X G (.Call (.Attribute o "append" apos) [e] [] cpos) (wApp wo we) :=
  PE.imp (pe_bm PySem.F.plainAttrs_list PySem.F.slot_list_append PySem.F.type_list_append mt_append ho (pa_cons he pa_nil hs) hbase hfew hline hs (by rfl)) fun σ H Q ⟨ρ, F, M, x, k, a, q, kt⟩ => ⟨ρ, F, M, x, _, a, q, fun v d F1 M1 H1 g1 o1 i1 ⟨p, ed, ⟨ds0, em0⟩, q1⟩ => by
    subst ed
    cases i1
    obtain ⟨_, ob, hp0, mo0⟩ := o1.mu p _ em0
    cases mo0 with
    | lst r0 =>
      refine ⟨.inl ⟨rfl, _, .of hp0⟩, ρ, F1, M1, x, _, a.step g1 o1, q1, fun u c F2 M2 H2 g2 o2 i2 ⟨ds, em, hl, q2⟩ => ?_⟩
      obtain ⟨nf, ob, hp, mo⟩ := o2.mu p _ em
      cases mo with
      | lst r => exact ⟨p, _, u, rfl, rfl, hp, by rw [r.len]; exact Nat.lt_of_lt_of_le hl (by decide), kt _ _ F2 _ _ ((g1.trans g2).trans (Gr.put em)) (o2.put nf (.lst (r.app (.cons i2 .nil))) (o2.mS em)) .non q2⟩⟩
/-- xs[i] = e, xs in the store -/
def wSetI (wo wi we : DE) : DS := fun E ρ M x => we ρ M x fun c M1 => wo ρ M1 x fun d M2 => wi ρ M2 x fun e M3 => ∃ p ds k j, d = .obj p ∧ M3 p = some (.lst ds) ∧ e = .int k ∧ ixN ds.length k = some j ∧ E.nx ρ (updM M3 p (.lst (ds.set j c)))
theorem ys_seti (he : XE X G e we) (ho : XE X G o wo) (hi : XE X G i wi)
    (ha : ∀ v, assign (.Subscript o i pos') X.env v = (do
      let ov ← holding [v] (eval o X.env)
      let iv ← holding [v, ov] (eval i X.env)
      standAt pos'
      holding [v, ov, iv] (setItem ov iv v)
      release [v, ov, iv] []) := by intro _; rfl)
    (hs : swapsWithSole [.Subscript o i pos'] e pos.line X.env = pure false := by rfl) (hw : swappedStores [.Subscript o i pos'] e X.env = pure none := by rfl)
    (h1 : (assignEach [.Subscript o i pos'] X.env).map (·.2) = [assign (.Subscript o i pos') X.env] := by rfl) : YS X G (.Assign [.Subscript o i pos'] e pos) (wSetI wo wi we) :=
  PS.imp (ps_asg he (pg_sub ho hi set_list ha) hs hw h1) fun D σ H ⟨ρ, F, M, x, E, a, q, et⟩ => ⟨ρ, F, M, x, _, a, q, fun v c F1 M1 H1 g1 o1 i1 q1 => ⟨ρ, F1, M1, x, _, a.step g1 o1, q1, fun u d F2 M2 H2 g2 o2 i2 q2 => ⟨ρ, F2, M2, x, _, a.step (g1.trans g2) o2, q2, fun y e F3 M3 H3 g3 o3 i3 ⟨p, ds, k, j, ed, em, ee, ej, q3⟩ => by
    subst ed ee
    cases i2
    obtain rfl := isD_int i3
    obtain ⟨nf, ob, hp, mo⟩ := o3.mu p _ em
    cases mo with
    | lst r =>
      have gg := ((g1.trans g2).trans g3)
      exact ⟨p, _, k, j, rfl, rfl, hp, by rw [r.len]; exact ej, et.nx σ ρ F3 _ _ (gg.trans (Gr.put em)) (o3.put nf (.lst (r.set (i1.mono (g2.trans g3).ex) j)) (o3.mS em)) (a.env.mono gg.ex) q3⟩⟩⟩⟩
/-- xs[::-1] -/
def wRev (w : DE) : DA := fun ρ M x k => w ρ M x fun d M1 => ∃ ds, view M1 d = .lst ds ∧ k ds.reverse M1
theorem xl_rev {k : Nat} {p1 p2 p3 pos : Pos} (he : XE X G e we) : XL X G (.Subscript e (.Slice none none (some (.UnaryOp .USub (.Constant (.int 1) k p1) p2)) p3) pos) (wRev we) :=
  PE.imp (pe_revL he) fun σ H Q ⟨ρ, F, M, x, k, a, q, kt⟩ => ⟨ρ, F, M, x, _, a, q, fun v d F1 M1 H1 g1 o1 i1 ⟨ds, ev, q1⟩ => by
    obtain ⟨p, xs, ep, hp, r⟩ := asLst o1 i1 ev
    exact ⟨p, xs, ep, .of hp, fun z hz => kt z _ _ F1 M1 _ (g1.trans (.newU hz)) (o1.newU hz) (fresh0 g1 hz) upd_same (o1.noF hz) (o1.noM hz) r.rev q1⟩⟩
/-! ### is, of truths -/
def isBD : OD := fun M d e q => ∃ a b, d = .bl a ∧ e = .bl b ∧ q (.bl (decide (a = b)))
theorem l_isBD : Lifts X.K isBD rIsB := fun F M H v u d e q Q o i1 i2 ⟨a, b, e1, e2, h⟩ kt => by
  subst e1 e2
  exact ⟨a, b, isD_bl i1, isD_bl i2, kt _ _ F H .refl o .bl h⟩
/-! ### texts joined, counted -/
def joinM : OM := fun M d ds q => ∃ a e ys, d = .str a ∧ ds = [e] ∧ (view M e = .lst (ys.map D.str) ∨ e = .tup (ys.map D.str)) ∧ (ys.map (·.length)).sum + ys.length * a.length ≤ 1000000 ∧ q (.str (Txt.join a ys))
theorem strs_v {K : PySem.W.Frag} {F : Hp} : ∀ {xs : List V} {bs : List Str}, IsDs K F xs (bs.map D.str) → xs = bs.map V.str
  | _, [], .nil => rfl
  | _, b :: bs, .cons i r => by rw [isD_str i, strs_v r]; rfl
theorem l_joinM : LiftsM X.K "str" joinM (fun x xs H Q => ∃ a p, ∃ ys : List Str, x = .str a ∧ xs = [.ref p] ∧ (SqL X.K H p (ys.map V.str) ∨ SqT X.K H p (ys.map V.str)) ∧ (ys.map (·.length)).sum + ys.length * a.length ≤ 16777216 ∧ Q (.str (Txt.join a ys)) H) :=
  fun F M H v d vs ds q Q o i1 i2 ⟨a, e, ys, ed, es, ev, hz, h⟩ kt => by
  subst ed es
  obtain rfl := isD_str i1
  obtain ⟨u, rfl, iu⟩ := isDs1 i2
  rcases ev with ev | ev
  · obtain ⟨p, xs, rfl, hp, r⟩ := asLst o iu ev
    obtain rfl := strs_v r
    exact ⟨a, p, ys, rfl, rfl, .inl (.of hp), Nat.le_trans hz (by decide), kt _ _ F H .refl o .str h⟩
  · subst ev
    obtain ⟨p, xs, rfl, hp, r, _⟩ := asTup o iu rfl
    obtain rfl := strs_v r
    exact ⟨a, p, ys, rfl, rfl, .inr hp, Nat.le_trans hz (by decide), kt _ _ F H .refl o .str h⟩
def countM : OM := fun M d ds q => ∃ a b, d = .str a ∧ ds = [.str b] ∧ q (.int (Txt.count a b))
theorem l_countM : LiftsM X.K "str" countM (fun x xs H Q => ∃ a b, x = .str a ∧ xs = [.str b] ∧ Q (.int (Txt.count a b)) H) := fun F M H v d vs ds q Q o i1 i2 ⟨a, b, ed, es, h⟩ kt => by
  subst ed es
  obtain rfl := isD_str i1
  obtain ⟨u, rfl, iu⟩ := isDs1 i2
  obtain rfl := isD_str iu
  exact ⟨a, b, rfl, rfl, kt _ _ F H .refl o .int h⟩
end
end TV

set_option Elab.async false
set_option linter.all false
set_option maxRecDepth 100000
set_option maxHeartbeats 1000000
namespace TV
open PySem PySem.Spec PyProof.Rows L2
section
variable {X : Cx} {G : XK} {pos : Pos}
/-- a list made is stored as a thing of the store, as a list that stays -/
theorem setL_mut {w : DA} {i : Nat} {D : Ends} {σ : L2.St} {H : Hp} (h : rS X.K G (wSet i (wMut w)) D σ H) : rL X.K G w σ H fun v H1 => gName i v σ H1 D.nx := by
  obtain ⟨ρ, F, M, x, E, a, q, et⟩ := h
  exact ⟨ρ, F, M, x, _, a, q, fun p vs ds F1 M1 H1 g1 o1 hp e1 f1 m1 i1 q1 => et.nx _ _ F1 _ H1 (g1.adoptM hp) (o1.takeM e1 f1 (.lst i1) (a.heap.noS hp)) ((a.env.mono g1.ex).set i .obj) (q1 p m1)⟩
theorem setL_frz {w : DA} {i : Nat} {D : Ends} {σ : L2.St} {H : Hp} (h : rS X.K G (wSet i (wFrz w)) D σ H) : rL X.K G w σ H fun v H1 => gName i v σ H1 D.nx := by
  obtain ⟨ρ, F, M, x, E, a, q, et⟩ := h
  exact ⟨ρ, F, M, x, _, a, q, fun p vs ds F1 M1 H1 g1 o1 hp e1 f1 m1 i1 q1 => et.nx _ _ (upd F1 p (.lst vs)) _ H1 (g1.adopt hp f1) (o1.take e1 f1 m1 (a.heap.noS hp)) (((a.env.mono g1.ex).mono (Same.upd f1)).set i (.lst upd_same (i1.mono (Same.upd f1)))) q1⟩
section
variable {i : Nat} {y : Str} {py : Pos} {elt tg iter : Expr} {ifs : List Expr} {scope : Scope} {own : List (Str × Nat)} {spos : Pos} {wi : DI} {g : TG} {gd : DG} {tt : DT} {te : DE}
theorem ys_setLcM (hc : X.calm = true) (hN : X.N.Nodup) (hy : X.N[i]? = some y) (hyl : X.env.scope.names.lookup y = some .local)
    (hsw : swapsWith (.ListComp elt [⟨tg, iter, ifs, 0⟩] scope pos) (some (.Name y py)) spos.line X.env = pure true) (hi : XI X G tg iter wi) (ok : BlkOk X.N X.env.scope scope own) (ht : TgOk X.K g gd (own.map (·.2)))
    (hg : ∀ (s : Shared) (H : Hp) (C : Addr) (cl : List (Str × Addr)) (fp : List Addr), PG (X.blk s H scope (compEnvC scope cl C X.env) fp) tg g)
    (htt : ∀ (s : Shared) (H : Hp) (C : Addr) (cl : List (Str × Addr)) (fp : List Addr), PTs (X.blk s H scope (compEnvC scope cl C X.env) fp) ifs (rT X.K G tt))
    (he : ∀ (s : Shared) (H : Hp) (C : Addr) (cl : List (Str × Addr)) (fp : List Addr), PE (X.blk s H scope (compEnvC scope cl C X.env) fp) elt (rE X.K G te))
    (hs : ∀ x, foldedSetIterable iter X.env x = pure x := by intro _; rfl) : YS X G (.Assign [.Name y py] (.ListComp elt [⟨tg, iter, ifs, 0⟩] scope pos) spos) (wSet i (wMut (wLc wi gd tt te (own.map (·.2))))) :=
  PS.imp (ps_setLc hc hN hy hyl hsw hi ok hg htt he hs) fun D σ H h => lc_of ht (setL_mut h)
theorem ys_setLcF (hc : X.calm = true) (hN : X.N.Nodup) (hy : X.N[i]? = some y) (hyl : X.env.scope.names.lookup y = some .local)
    (hsw : swapsWith (.ListComp elt [⟨tg, iter, ifs, 0⟩] scope pos) (some (.Name y py)) spos.line X.env = pure true) (hi : XI X G tg iter wi) (ok : BlkOk X.N X.env.scope scope own) (ht : TgOk X.K g gd (own.map (·.2)))
    (hg : ∀ (s : Shared) (H : Hp) (C : Addr) (cl : List (Str × Addr)) (fp : List Addr), PG (X.blk s H scope (compEnvC scope cl C X.env) fp) tg g)
    (htt : ∀ (s : Shared) (H : Hp) (C : Addr) (cl : List (Str × Addr)) (fp : List Addr), PTs (X.blk s H scope (compEnvC scope cl C X.env) fp) ifs (rT X.K G tt))
    (he : ∀ (s : Shared) (H : Hp) (C : Addr) (cl : List (Str × Addr)) (fp : List Addr), PE (X.blk s H scope (compEnvC scope cl C X.env) fp) elt (rE X.K G te))
    (hs : ∀ x, foldedSetIterable iter X.env x = pure x := by intro _; rfl) : YS X G (.Assign [.Name y py] (.ListComp elt [⟨tg, iter, ifs, 0⟩] scope pos) spos) (wSet i (wFrz (wLc wi gd tt te (own.map (·.2))))) :=
  PS.imp (ps_setLc hc hN hy hyl hsw hi ok hg htt he hs) fun D σ H h => lc_of ht (setL_frz h)
end
/-- x is None -/
def isNF (d : D) : Bool := match d with
  | .non => true
  | _ => false
theorem isN_v {K : PySem.W.Frag} {F : Hp} {v : V} {d : D} (h : IsD K F v d) : decide (v = .non) = isNF d := by
  cases h <;> first | rfl | (simp [isNF])
def isND : OD := fun _ d e q => e = .non ∧ q (.bl (isNF d))
def notND : OD := fun _ d e q => e = .non ∧ q (.bl (!isNF d))
theorem l_isND : Lifts X.K isND (fun x y H Q => y = .non ∧ Q (.bl (decide (x = .non))) H) := fun F M H v u d e q Q o i1 i2 ⟨e1, h⟩ kt => by
  subst e1
  cases i2
  exact ⟨rfl, by rw [isN_v i1]; exact kt _ _ F H .refl o .bl h⟩
theorem l_notND : Lifts X.K notND (fun x y H Q => y = .non ∧ Q (.bl (!decide (x = .non))) H) := fun F M H v u d e q Q o i1 i2 ⟨e1, h⟩ kt => by
  subst e1
  cases i2
  exact ⟨rfl, by rw [isN_v i1]; exact kt _ _ F H .refl o .bl h⟩
/-- for i, x in enumerate(xs) over a list, over a text: pairs -/
def pairsN (n : Nat) : List D → List D
  | [] => []
  | d :: ds => .tup [.int n, d] :: pairsN (n + 1) ds
theorem pairsN_len : ∀ (n : Nat) (ds : List D), (pairsN n ds).length = ds.length
  | _, [] => rfl
  | n, _ :: ds => congrArg (· + 1) (pairsN_len (n + 1) ds)
theorem pairsN_get : ∀ (n : Nat) (ds : List D) (i : Nat) (d : D), ds[i]? = some d → (pairsN n ds)[i]? = some (.tup [.int ((n + i : Nat) : Int), d])
  | _, [], _, _, e => by simp at e
  | n, c :: ds, 0, d, e => by
    simp at e; subst e
    simp [pairsN]
  | n, c :: ds, i + 1, d, e => by
    have := pairsN_get (n + 1) ds i d (by simpa using e)
    show (pairsN (n + 1) ds)[i]? = _
    rw [this, show n + 1 + i = n + (i + 1) by omega]
theorem walks_enum {K : PySem.W.Frag} {F0 : Hp} {a : Addr} {ds : List D} {stay : MS → Prop} (h : ∀ F M H, Same F0 F → HeapOk K F M H → stay M → ∃ xs, SqL K H a xs ∧ IsDs K F xs ds) : Walks K (Ite K a) (pairsN 0 ds) stay F0 where
  go := fun i F M H e o s hi => by
    rw [pairsN_len] at hi
    obtain ⟨xs, q, r⟩ := h F M H e o s
    exact ⟨xs, xs[i]'(by rw [r.len]; exact hi), q, by simp [r.len, hi]⟩
  stop := fun F M H e o s => by
    obtain ⟨xs, q, r⟩ := h F M H e o s
    exact ⟨xs, q, by rw [pairsN_len, r.len]; exact Nat.le_refl _⟩
  yld := fun i F M H x H' e o s hi y => by
    obtain ⟨xs, q, r⟩ := h F M H e o s
    obtain ⟨T, x', rfl, nT, rfl, y⟩ := y
    obtain ⟨d, ed, hd⟩ := r.getV i (y xs q)
    refine ⟨upd F T (.tup [.int (i : Nat), x']), _, .frz (o.noF nT) nT, o.frz nT, .tup (.of upd_same) (.cons .int (.cons (hd.mono (Same.upd (o.noF nT))) .nil)), ?_⟩
    rw [pairsN_get 0 ds i d ed, Nat.zero_add]
def wiEnum (w : DA) : DI := fun ρ M x k => w ρ M x fun ds M1 => ∃ d es, ds = [d] ∧ view M1 d = .lst es ∧ k (pairsN 0 es) (fun M2 => view M2 d = .lst es) M1
theorem xi_enum {e : Expr} {elts : List Expr} {kk : Nat} {tpos p : Pos} {w : DA} (hg : Gl X "enumerate") (hm : X.mg "enumerate" = none) (ha : XA X G [e] w) (hs : starEach [e] X.env = [(false, eval e X.env)] := by rfl) : XI X G (.Tuple elts kk tpos) (.Call (.Name "enumerate" p) [e] [] pos) (wiEnum w) :=
  PI.imp (pi_enum hg hm ha hs) fun σ H R ⟨ρ, F, M, x, k, a, q, kt⟩ => ⟨ρ, F, M, x, _, a, q, fun vs ds F1 M1 H1 g1 o1 i1 ⟨d, es, ed, ev, q1⟩ => by
    subst ed
    obtain ⟨v, rfl, iv⟩ := isDs1 i1
    obtain ⟨p, xs, rfl, hp, r⟩ := asLst o1 iv ev
    exact ⟨p, xs, rfl, .of hp, kt _ _ _ F1 M1 H1 g1 o1 (walks_enum fun F M H e' o' st => by
      obtain ⟨p', xs', ep, s', r'⟩ := asLst o' (iv.mono e') st
      cases ep
      exact ⟨xs', .of s', r'⟩) q1⟩⟩
end
end TV

set_option Elab.async false
set_option linter.all false
set_option maxRecDepth 100000
set_option maxHeartbeats 1000000
namespace TV
open PySem PySem.Spec PyProof.Rows L2

/-! ### enumerate of a text -/
def Ites (x : Str) : It :=
  ⟨fun i _ => i < x.cps.size, fun i H v H' => ∃ T c, v = .ref T ∧ H T = none ∧ x.cps[i]? = some c ∧ H' = upd H T (.tup [.int (i : Nat), .str ⟨#[c]⟩]), fun i _ => i = x.cps.size⟩
theorem draws_str {prog : Program} {w : World} {A : Around} (hh : A.handled = none) (it : Addr) (x : Str) (t : Tok) :
    Draws prog w A it [it] x.cps.size (fun i v => ∃ c u, x.cps[i]? = some c ∧ v = .str ⟨#[c]⟩ u) (fun i h => h.IsStrIter it (strIterType x) x t i) := by
  unfold strIterType
  cases h : x.cps.all (· < 128)
  · rw [if_neg (by simp)]; exact Draws.strWide hh it x t
  · rw [if_pos rfl]; exact Draws.strAscii hh it x t
theorem turn_enumS {P : Program} {w : World} {K : PySem.W.Frag} {elts : List Expr} {kk : Nat} {tpos : Pos} (x : Str) (t : Tok) (e it : Addr) :
    Turn P w K (.Tuple elts kk tpos) (Ites x) [e, it] e (fun i h => (∃ old, IsEnum h e it ((i : Nat) : Int) old) ∧ h.IsStrIter it (strIterType x) x t i ∧ e ≠ it) where
  mem := by simp
  obj := fun i h st b hb => by
    obtain ⟨⟨old, he⟩, ⟨o, ho, hc, hd⟩, _⟩ := st
    rcases (show b = e ∨ b = it by simpa using hb) with rfl | rfl
    · exact ⟨_, he, fun v q => nomatch q⟩
    · exact ⟨o, ho, fun v q => by rw [hd] at q; cases q⟩
  keep := fun i h h' st k => let ⟨⟨old, he⟩, ⟨o, ho, r⟩, hne⟩ := st; ⟨⟨old, k e (by simp) _ he⟩, ⟨o, k it (by simp) o ho, r⟩, hne⟩
  item := by
    intro X hP hw hK hc i pins s σ H E I hf st hg
    subst hP hw hK
    obtain ⟨⟨old, he⟩, hit, hne⟩ := st
    have lt1 : e < s.heap.objs.size := Heap.lt_size he
    have lt2 : it < s.heap.objs.size := by obtain ⟨_, q, _⟩ := hit; exact Heap.lt_size q
    refine wpAny_pyNext_enum_itemD (draws_str (A := X.A.in1) (by show X.A.handled = none; exact I.ok.hd hc) it x t) he hit hg hne (by simp [hne]) fun y h' tk hP ho hit' hT hsz hk => ?_
    obtain ⟨c, u, ec, rfl⟩ := hP
    refine ⟨_, rfl, wpAny_letOwnedTupleGo_enum (s := { s with heap := h', toks := tk + 1 }) ho fun h'' he' sb => ?_⟩
    have made : h''.get? s.heap.objs.size = some { cls := .type "tuple", data := .seq #[.int i tk, .str ⟨#[c]⟩ u] } := (sb.2 _ (Nat.ne_of_gt lt1)).trans hT
    have new : ObjOk X.prog X.w (upd H s.heap.objs.size (.tup [.int (i : Nat), .str ⟨#[c]⟩])) h'' s.heap.objs.size (.tup [.int (i : Nat), .str ⟨#[c]⟩]) :=
      ⟨by show 2 ≤ sizeLine; decide, [.int i tk, .str ⟨#[c]⟩ u], .cons ⟨_, rfl⟩ (.cons ⟨_, rfl⟩ .nil), ⟨_, made, rfl, _, rfl⟩⟩
    have I1 : L2.Inv X pins σ (upd H s.heap.objs.size (.tup [.int (i : Nat), .str ⟨#[c]⟩])) { s with heap := h'', toks := tk + 1 } :=
      I.turnedNew (ch := [e, it]) (fun b ob hb q => (sb.2 b (fun z => hb (by simp [z]))).trans (hk b ob (fun z => hb (by simp [z])) (fun z => hb (by simp [z])) q)) hf (Nat.le_refl _) new
    refine ⟨.ref s.heap.objs.size, _, I1, rfl, ⟨_, c, rfl, I.hok.fresh (Nat.le_refl _), ec, rfl⟩, ⟨⟨.str ⟨#[c]⟩ u, ?_⟩, ?_, hne⟩, fun b hb => ?_⟩
    · have e1 : ((i + 1 : Nat) : Int) = (i : Int) + 1 := by omega
      rw [e1]; exact he'
    · obtain ⟨o, q1, q2⟩ := hit'
      exact ⟨o, (sb.2 it (Ne.symm hne)).trans q1, q2⟩
    · have hb' : b < s.heap.objs.size := by
        rcases (show b = e ∨ b = it by simpa using hb) with rfl | rfl
        · exact lt1
        · exact lt2
      rw [upd_ne (Nat.ne_of_lt hb')]
      exact (hf b hb).1
  done := by
    intro X hP hw hK hc i pins s σ H E I hf st hg
    subst hP hw hK
    obtain ⟨⟨old, he⟩, hit, hne⟩ := st
    obtain ⟨f0, f1, f2, f3, f4, f5⟩ := hf it (by simp)
    obtain rfl : i = x.cps.size := hg
    exact wpAny_pyNext_enum_endD (draws_str (A := X.A.in1) (by show X.A.handled = none; exact I.ok.hd hc) it x t) he hit fun h' eb => ⟨rfl, I.turned (t' := s.toks) (fun b o hb q => eb b o hb q) f0 f1 f3 f4 f5⟩
  self := fun A i s Q E st h => let ⟨⟨_, he⟩, _⟩ := st; wpAny_pyIter_enum he h
def iEnumS (ta : TA) : TI := fun σ H R => ta σ H fun vs H1 => ∃ x, vs = [.str x] ∧ R (Ites x) H1
theorem pi_enumS {X : Cx} {e : Expr} {ta : TA} {p pos tpos : Pos} {elts : List Expr} {kk : Nat} (hg : Gl X "enumerate") (hm : X.mg "enumerate" = none) (ha : PA X [e] ta) (hs : starEach [e] X.env = [(false, eval e X.env)] := by rfl) :
    PI X (.Tuple elts kk tpos) (.Call (.Name "enumerate" p) [e] [] pos) (iEnumS ta) := by
  refine ⟨fun pins s σ H R I h => Call_ (ld_blt I hg hm boot_enumerate (PyProof.Rows.callWith_type1 (thn (ha.run pos pins s σ H _ I h) fun us s1 ⟨vs, H1, I1, r1, q1⟩ => ?_) hs rfl))⟩
  obtain ⟨x, ex, q⟩ := q1
  subst ex
  obtain ⟨u, rfl, t, rfl⟩ := vals1 r1
  refine call_enumerate_str fun h' he hit hsz hk => wpAny_pyIter_enum he ?_
  have I2 : L2.Inv X pins σ H1 { s1 with heap := h' } := I1.kept (t' := s1.toks) hk
  refine ⟨s1.heap.objs.size + 1, [s1.heap.objs.size + 1, s1.heap.objs.size], _, _, H1, rfl, I2, turn_enumS x t (s1.heap.objs.size + 1) s1.heap.objs.size, ⟨⟨.none, he⟩, hit, Nat.succ_ne_self _⟩, fun b hb => ?_, q⟩
  have hle : s1.heap.objs.size ≤ b := by
    rcases (show b = s1.heap.objs.size + 1 ∨ b = s1.heap.objs.size by simpa using hb) with rfl | rfl
    · exact Nat.le_add_right _ _
    · exact Nat.le_refl _
  exact I1.fpOk hle (I1.hok.fresh hle)
theorem walks_enumS {K : PySem.W.Frag} {F0 : Hp} {x : Str} {stay : MS → Prop} : Walks K (Ites x) (pairsN 0 (signs x)) stay F0 where
  go := fun i F M H e o s hi => by simpa [pairsN_len, signs, Ites] using hi
  stop := fun F M H e o s => by simp [pairsN_len, signs, Ites]
  yld := fun i F M H v H' e o s hi y => by
    obtain ⟨T, c, rfl, nT, ec, rfl⟩ := y
    have eg : (signs x)[i]? = some (.str ⟨#[c]⟩) := by
      unfold signs
      rw [List.getElem?_map, Array.getElem?_toList, ec]; rfl
    refine ⟨upd F T _, _, .frz (o.noF nT) nT, o.frz nT, .tup (.of upd_same) (.cons .int (.cons .str .nil)), ?_⟩
    rw [pairsN_get 0 (signs x) i _ eg, Nat.zero_add]
def wiEnumS (w : DA) : DI := fun ρ M x k => w ρ M x fun ds M1 => ∃ z, ds = [.str z] ∧ k (pairsN 0 (signs z)) (fun _ => True) M1
theorem xi_enumS {X : Cx} {G : XK} {e : Expr} {elts : List Expr} {kk : Nat} {tpos p pos : Pos} {w : DA} (hg : Gl X "enumerate") (hm : X.mg "enumerate" = none) (ha : XA X G [e] w) (hs : starEach [e] X.env = [(false, eval e X.env)] := by rfl) : XI X G (.Tuple elts kk tpos) (.Call (.Name "enumerate" p) [e] [] pos) (wiEnumS w) :=
  PI.imp (pi_enumS hg hm ha hs) fun σ H R ⟨ρ, F, M, x, k, a, q, kt⟩ => ⟨ρ, F, M, x, _, a, q, fun vs ds F1 M1 H1 g1 o1 i1 ⟨z, ed, q1⟩ => by
    subst ed
    obtain ⟨v, rfl, iv⟩ := isDs1 i1
    obtain rfl := isD_str iv
    exact ⟨z, rfl, kt _ _ _ F1 M1 H1 g1 o1 walks_enumS q1⟩⟩
theorem l_ninSD {X : Cx} : Lifts X.K ninSD (fun x y H Q => ∃ (c : Nat) (z : Str), x = .str ⟨#[c]⟩ ∧ y = .str z ∧ Q (.bl (!decide (c ∈ z.cps.toList))) H) := fun F M H v u d e q Q o i1 i2 ⟨c, z, e1, e2, h⟩ kt => by
  subst e1 e2
  exact ⟨c, z, isD_str i1, isD_str i2, kt _ _ F H .refl o .bl h⟩
/-- a, b, c = x, y, z with plain local names -/
def wPar3 (i j l : Nat) (wa : DA) : DS := fun E ρ M x => wa ρ M x fun ds M1 => ∃ d e f, ds = [d, e, f] ∧ E.nx (((ρ.set i (some d)).set j (some e)).set l (some f)) M1
theorem ys_par3 {X : Cx} {G : XK} {pos : Pos} {i j l : Nat} {x y z : Str} {a b c : Expr} {wa : DA} {px py pz pt : Pos} {kt k2 pt2} (hc : X.calm = true) (hN : X.N.Nodup) (hi : X.N[i]? = some x) (hj : X.N[j]? = some y) (hl : X.N[l]? = some z) (hij : i ≠ j) (hil : i ≠ l) (hjl : j ≠ l)
    (hx : X.env.scope.names.lookup x = some .local) (hy : X.env.scope.names.lookup y = some .local) (hz : X.env.scope.names.lookup z = some .local) (ha : XA X G [a, b, c] wa)
    (hw : swappedStores [.Tuple [.Name x px, .Name y py, .Name z pz] kt pt] (.Tuple [a, b, c] k2 pt2) X.env = pure (some [x, y, z]))
    (hs : swapsWithSole [.Tuple [.Name x px, .Name y py, .Name z pz] kt pt] (.Tuple [a, b, c] k2 pt2) pos.line X.env = pure false := by rfl) :
    YS X G (.Assign [.Tuple [.Name x px, .Name y py, .Name z pz] kt pt] (.Tuple [a, b, c] k2 pt2) pos) (wPar3 i j l wa) :=
  PS.imp (ps_par3 hc hN hi hj hl hij hil hjl hx hy hz ha hw hs) fun D σ H ⟨ρ, F, M, x, E, a, q, et⟩ => ⟨ρ, F, M, x, _, a, q, fun vs ds F1 M1 H1 g1 o1 i1 ⟨d, e, f, hd, q1⟩ => by
    subst hd
    cases i1 with
    | cons h1 i1 =>
      obtain ⟨v2, v3, rfl, h2, h3⟩ := isDs2 i1
      exact ⟨_, _, _, rfl, et.nx _ _ F1 M1 H1 g1 o1 ((((a.env.mono g1.ex).set i h1).set j h2).set l h3) q1⟩⟩
/-- code that the proof never comes to -/
def wNever : DS := fun _ _ _ _ => False
theorem ys_never {X : Cx} {G : XK} {st : Stmt} : YS X G st wNever := PS.imp ps_never fun D σ H ⟨_, _, _, _, _, _, q, _⟩ => q.elim
theorem yss_never {X : Cx} {G : XK} {st : List Stmt} : YSs X G st wNever := PSs.imp pss_never fun D σ H ⟨_, _, _, _, _, _, q, _⟩ => q.elim
end TV

set_option Elab.async false
set_option linter.all false
set_option maxRecDepth 100000
set_option maxHeartbeats 1000000
/-! Dicts written that nobody changes. -/
namespace TV
open PySem PySem.Spec PyProof.Rows L2
section
variable {X : Cx} {G : XK} {pos : Pos}
def wDictF (l : List (Str × DE)) : DE := fun ρ M x k => wPairs l ρ M x fun es M1 => k (.dct (dictOf es)) M1
theorem xe_dictF {keys : List (Option Expr)} {values : List Expr} {l : List (Str × DE)} (h : PPs X pos keys values (trs X.K G l)) (hall : keys.all (·.isSome) = true) (hl : keys.length = values.length) (h0 : keys ≠ []) (h15 : keys.length ≤ 15) (hk : l.length ≤ 15) : XE X G (.Dict keys values pos) (wDictF l) :=
  PE.imp (pe_disp h hall hl h0 h15) fun σ H Q ⟨ρ, F, M, x, k, a, q, kt⟩ p hp => by
    have a1 : At X.K G σ ρ F M (upd H p (.dK [])) x := ⟨a.env, a.heap.newU hp, a.xok.step (Gr.newU hp)⟩
    refine pairs_of l a1 q fun kvs es F1 M1 H1 g1 o1 i1 hlen q1 => ?_
    have e1 : H1 p = some (.dK []) := g1.fr p _ upd_same (a.heap.noF hp) (a.heap.noM hp)
    have f1 : F1 p = none := g1.keepF upd_same (a.heap.noF hp) (a.heap.noM hp)
    have m1 : M1 p = none := g1.keepM upd_same (a.heap.noM hp)
    have ns := a.heap.noS hp
    refine ⟨e1, kvs, rfl, by rw [hlen]; exact hk, kt _ _ (upd F1 p (.dK (mergeK [] kvs))) M1 _ ?_ ((o1.setU f1 m1 ns).take upd_same f1 m1 ns) (.dct upd_same ((merge_v i1 .nil).mono (Same.upd f1))) q1⟩
    exact (((Gr.newU hp).trans g1).setU hp).adopt hp f1
def wDict0F : DE := fun ρ M x k => k (.dct []) M
theorem xe_dict0F : XE X G (.Dict [] [] pos) wDict0F :=
  PE.imp pe_dnewK fun σ H Q ⟨ρ, F, M, x, k, a, q, kt⟩ p hp =>
    kt _ _ (upd F p (.dK [])) M _ (.frz (a.heap.noF hp) hp) (a.heap.frz hp) (.dct upd_same .nil) q
end

/-! ### a row of things, kept and turned -/
def fmD {α β : Type} (keep : α → Bool) (val : α → β) (l : List α) : List β := (l.filter keep).map val
theorem fm_step {α β : Type} {keep : α → Bool} {val : α → β} {l : List α} {i : Nat} {d : α} (h : l[i]? = some d) : fmD keep val (l.take (i + 1)) = fmD keep val (l.take i) ++ (if keep d then [val d] else []) := by
  unfold fmD
  rw [List.take_add_one, h, List.filter_append, List.map_append]
  cases e : keep d <;> simp [List.filter, e]
theorem ty_view {M : MS} {d : D} {t : String} (h : tyD d = some t) : view M d = d := by
  cases d <;> first | rfl | (simp [tyD] at h)
end TV

set_option Elab.async false
set_option linter.all false
set_option maxRecDepth 100000
set_option maxHeartbeats 1000000
/-! How long a picture is. -/
namespace TV
open PySem PySem.Spec PyProof.Rows L2
theorem reprChar_le : ∀ q ∈ [34, 39], ∀ c < 256, (Builtin.Str.reprChar q c).length ≤ 4 := by decide +kernel
theorem quote_in (s : Str) : reprQuote s ∈ [34, 39] := by
  unfold reprQuote
  split <;> simp
def lat (s : Str) : Prop := ∀ c ∈ s.cps.toList, c < 256
theorem shownS_len {s : Str} (h : lat s) : (PyData.str s).shown.length ≤ 4 * s.length + 2 := by
  rw [PyData.shown.eq_4]
  have key : ∀ (l : List Nat) (a : Array Nat), (∀ c ∈ l, c < 256) → (l.foldl (fun out c => out ++ (Builtin.Str.reprChar (reprQuote s) c).toArray) a).size ≤ a.size + 4 * l.length := by
    intro l
    induction l with
    | nil => intro a _; simp
    | cons c l ih =>
      intro a ha
      rw [List.foldl_cons]
      have h1 := ih (a ++ (Builtin.Str.reprChar (reprQuote s) c).toArray) fun c hc => ha c (List.mem_cons_of_mem _ hc)
      have h2 := reprChar_le _ (quote_in s) c (ha c List.mem_cons_self)
      simp only [Array.size_append, List.size_toArray, List.length_cons] at h1 ⊢
      omega
  have k2 := key s.cps.toList #[reprQuote s] h
  show (reprText s).cps.size ≤ 4 * s.cps.size + 2
  unfold reprText
  simp only [Array.size_push, ← Array.foldl_toList]
  simp only [Array.length_toList] at k2
  have : (#[reprQuote s] : Array Nat).size = 1 := rfl
  omega
theorem len_app (a b : Str) : (a ++ b).length = a.length + b.length := by
  show (a.cps ++ b.cps).size = a.cps.size + b.cps.size
  exact Array.size_append
theorem shownL1_len {p : PyData} : (PyData.list [p]).shown.length = p.shown.length + 2 := by
  rw [PyData.shown.eq_5, PyData.shownAll.eq_2, PyData.shownAll.eq_1]
  show (textFrom 0 (Str.ofString "[") [p.shown] ++ Str.ofString "]").length = _
  rw [textFrom.eq_2, textFrom.eq_1, len_app, len_app, len_app]
  have e1 : (Str.ofString "[").length = 1 := by decide +kernel
  have e2 : (Str.ofString "]").length = 1 := by decide +kernel
  have e3 : (Str.ofString (if 0 > 0 then ", " else "")).length = 0 := by decide +kernel
  rw [e1, e2, e3]; omega
theorem signs_get {z : Str} {i : Nat} {d : D} (h : (signs z)[i]? = some d) : ∃ c, z.cps.toList[i]? = some c ∧ d = .str ⟨#[c]⟩ := by
  unfold signs at h
  rw [List.getElem?_map] at h
  cases e : z.cps.toList[i]? with
  | none => rw [e] at h; cases h
  | some c => rw [e] at h; exact ⟨c, rfl, (Option.some.inj h).symm⟩
theorem signs_len (z : Str) : (signs z).length = z.length := by unfold signs; rw [List.length_map]; exact Array.length_toList
theorem map_step {α β : Type} {f : α → β} {l : List α} {i : Nat} {d : α} (h : l[i]? = some d) : (l.take (i + 1)).map f = (l.take i).map f ++ [f d] := by
  rw [List.take_add_one, h, List.map_append]; rfl
theorem rng_get {lo : Int} {n i : Nat} {d : D} (h : (rng lo n)[i]? = some d) : i < n ∧ d = .int (lo + (i : Int)) := by
  unfold rng at h
  rw [List.getElem?_map] at h
  by_cases hi : i < n
  · rw [List.getElem?_range hi] at h
    exact ⟨hi, (Option.some.inj h).symm⟩
  · rw [List.getElem?_eq_none (by simp; omega)] at h; cases h
theorem rng_len {lo : Int} {n : Nat} : (rng lo n).length = n := by unfold rng; simp

section
variable {M : MS}
theorem vw_non : view M .non = .non := rfl
theorem vw_bl {b} : view M (.bl b) = .bl b := rfl
theorem vw_int {b} : view M (.int b) = .int b := rfl
theorem vw_str {b} : view M (.str b) = .str b := rfl
theorem vw_tup {b} : view M (.tup b) = .tup b := rfl
theorem vw_lst {b} : view M (.lst b) = .lst b := rfl
theorem vw_fro {b} : view M (.fro b) = .fro b := rfl
theorem vw_dct {b} : view M (.dct b) = .dct b := rfl
theorem ty_non : tyD .non = some "NoneType" := rfl
theorem ty_bl {b} : tyD (.bl b) = some "bool" := rfl
theorem ty_int {b} : tyD (.int b) = some "int" := rfl
theorem ty_str {b} : tyD (.str b) = some "str" := rfl
theorem ty_tup {b} : tyD (.tup b) = some "tuple" := rfl
theorem ty_lst {b} : tyD (.lst b) = some "list" := rfl
theorem ty_dct {b} : tyD (.dct b) = some "dict" := rfl
theorem tn_str : "str" ∈ tyNames := by decide
theorem tn_int : "int" ∈ tyNames := by decide
theorem tn_bool : "bool" ∈ tyNames := by decide
theorem tn_list : "list" ∈ tyNames := by decide
theorem tn_tuple : "tuple" ∈ tyNames := by decide
theorem tn_dict : "dict" ∈ tyNames := by decide
theorem vw_obj_lst {p ds} (h : M p = some (.lst ds)) : view M (.obj p) = .lst ds := by simp [view, h]
theorem vw_obj_dct {p ds} (h : M p = some (.dct ds)) : view M (.obj p) = .dct ds := by simp [view, h]
end

/-! what operators give of things whose kind is known -/
section
variable {M : MS}
theorem add_int {i j : Int} {q} : addD M (.int i) (.int j) q = q (.int (i + j)) := rfl
theorem add_str {a b : Str} {q} : addD M (.str a) (.str b) q = (a.length + b.length ≤ 100000 ∧ q (.str (a ++ b))) := rfl
theorem add_lst {a b : List D} {q} : addD M (.lst a) (.lst b) q = (a.length + b.length ≤ 100000 ∧ q (.lst (a ++ b))) := rfl
theorem add_tup {a b : List D} {q} : addD M (.tup a) (.tup b) q = (a.length + b.length ≤ 100000 ∧ q (.tup (a ++ b))) := rfl
theorem mul_int {i j : Int} {q} : mulD M (.int i) (.int j) q = (CMulW i j ∧ q (.int (i * j))) := rfl
theorem mul_str {a : Str} {n : Int} {q} : mulD M (.str a) (.int n) q = (-1000000 ≤ n ∧ n ≤ 1000000 ∧ a.length * n.toNat ≤ 1000000 ∧ q (.str (Txt.mul a n))) := rfl
theorem ix_str {z : Str} {i : Int} {q} : ixD M (.str z) (.int i) q ↔ (z.length ≤ 100000 ∧ ∃ c, atI z.cps.toList i = some c ∧ q (.str ⟨#[c]⟩)) :=
  ⟨fun ⟨_, e, h⟩ => by cases e; exact h, fun h => ⟨i, rfl, h⟩⟩
theorem ix_lst {z : List D} {i : Int} {q} : ixD M (.lst z) (.int i) q ↔ (∃ c, atI z i = some c ∧ q c) :=
  ⟨fun ⟨_, e, h⟩ => by cases e; exact h, fun h => ⟨i, rfl, h⟩⟩
theorem ix_tup {z : List D} {i : Int} {q} : ixD M (.tup z) (.int i) q ↔ (∃ c, atI z i = some c ∧ q c) :=
  ⟨fun ⟨_, e, h⟩ => by cases e; exact h, fun h => ⟨i, rfl, h⟩⟩
theorem count_str {a b : Str} {q} : countM M (.str a) [.str b] q ↔ q (.int (Txt.count a b)) :=
  ⟨fun ⟨_, _, e, f, h⟩ => by cases e; cases f; exact h, fun h => ⟨a, b, rfl, rfl, h⟩⟩
theorem len_str {s : Str} {q} : lenC M [.str s] q ↔ (s.length ≤ 100000 ∧ q (.int s.length)) :=
  ⟨fun ⟨_, e, h⟩ => by cases e; exact h, fun h => ⟨_, rfl, h⟩⟩
theorem len_lst {s : List D} {q} : lenC M [.lst s] q ↔ q (.int s.length) :=
  ⟨fun ⟨_, e, h⟩ => by cases e; exact h, fun h => ⟨_, rfl, h⟩⟩
theorem len_tup {s : List D} {q} : lenC M [.tup s] q ↔ q (.int s.length) :=
  ⟨fun ⟨_, e, h⟩ => by cases e; exact h, fun h => ⟨_, rfl, h⟩⟩
theorem tru_bl {b : Bool} {q} : truD M (.bl b) q = q b := rfl
theorem tru_int {b : Int} {q} : truD M (.int b) q = q (b != 0) := rfl
theorem tru_str {s : Str} {q} : truD M (.str s) q = (s.length ≤ sizeLine ∧ q ((s.length : Int) != 0)) := rfl
theorem tru_lst {s : List D} {q} : truD M (.lst s) q = q (!s.isEmpty) := rfl
theorem tru_tup {s : List D} {q} : truD M (.tup s) q = q (!s.isEmpty) := rfl
theorem key_str {s : Str} : keyD (.str s) = some (.inr s) := rfl
theorem key_int {s : Int} : keyD (.int s) = some (.inl s) := rfl
theorem x_eq : ("x" : Str) = ⟨#[120]⟩ := by decide +kernel
theorem sgx {c : Nat} : ((⟨#[c]⟩ : Str) == ("x" : Str)) = decide (c = 120) := by
  rw [x_eq]
  by_cases h : c = 120
  · subst h; rfl
  · rw [decide_eq_false h]
    refine beq_eq_false_iff_ne.mpr fun e => h ?_
    have := congrArg Str.cps e
    simpa using this
end

/-! == and != : texts and numbers as they are, all else as data -/
def eqE : OD := fun M d e q => match d, e with
  | .str a, .str b => q (.bl (a == b))
  | .int a, .int b => q (.bl (decide (a = b)))
  | d, e => eqD M d e q
def neE : OD := fun M d e q => match d, e with
  | .str a, .str b => q (.bl (!(a == b)))
  | .int a, .int b => q (.bl (!decide (a = b)))
  | d, e => neD M d e q
theorem dec_str {a b : Str} : decide (V.str a = V.str b) = (a == b) := by
  by_cases h : a = b
  · subst h; simp
  · rw [decide_eq_false (fun e => h (V.str.inj e)), beq_eq_false_iff_ne.mpr h]
theorem dec_int {a b : Int} : decide (V.int a = V.int b) = decide (a = b) := by
  by_cases h : a = b
  · subst h; simp
  · rw [decide_eq_false (fun e => h (V.int.inj e)), decide_eq_false h]
section
variable {X : Cx}
theorem op_eqE (hu : X.A.units + 64 < cLine) : OpR X (compareOp .Eq) (fun x y H Q => rEq x y H Q ∨ rEqD X.K x y H Q) := op_eq.or (op_eqD hu)
theorem op_neE (hu : X.A.units + 64 < cLine) : OpR X (compareOp .NotEq) (fun x y H Q => rNe x y H Q ∨ rNeD X.K x y H Q) := op_ne.or (op_neD hu)
theorem l_eqE : Lifts X.K eqE (fun x y H Q => rEq x y H Q ∨ rEqD X.K x y H Q) := fun F M H v u d e q Q o i1 i2 h kt => by
  unfold eqE at h
  split at h
  · obtain rfl := isD_str i1
    obtain rfl := isD_str i2
    exact .inl ⟨rfl, by rw [dec_str]; exact kt _ _ F H .refl o .bl h⟩
  · obtain rfl := isD_int i1
    obtain rfl := isD_int i2
    exact .inl ⟨rfl, by rw [dec_int]; exact kt _ _ F H .refl o .bl h⟩
  · exact .inr (l_eqD F M H v u _ _ q Q o i1 i2 h kt)
theorem l_neE : Lifts X.K neE (fun x y H Q => rNe x y H Q ∨ rNeD X.K x y H Q) := fun F M H v u d e q Q o i1 i2 h kt => by
  unfold neE at h
  split at h
  · obtain rfl := isD_str i1
    obtain rfl := isD_str i2
    exact .inl ⟨rfl, by rw [dec_str]; exact kt _ _ F H .refl o .bl h⟩
  · obtain rfl := isD_int i1
    obtain rfl := isD_int i2
    exact .inl ⟨rfl, by rw [dec_int]; exact kt _ _ F H .refl o .bl h⟩
  · exact .inr (l_neD F M H v u _ _ q Q o i1 i2 h kt)
end
section
variable {M : MS}
theorem eq_str {a b : Str} {q} : eqE M (.str a) (.str b) q = q (.bl (a == b)) := rfl
theorem ne_str {a b : Str} {q} : neE M (.str a) (.str b) q = q (.bl (!(a == b))) := rfl
theorem eq_int {a b : Int} {q} : eqE M (.int a) (.int b) q = q (.bl (decide (a = b))) := rfl
theorem ne_int {a b : Int} {q} : neE M (.int a) (.int b) q = q (.bl (!decide (a = b))) := rfl
theorem eq_lst {a b : List D} {q} : eqE M (.lst a) (.lst b) q = eqD M (.lst a) (.lst b) q := rfl
theorem ne_lst {a b : List D} {q} : neE M (.lst a) (.lst b) q = neD M (.lst a) (.lst b) q := rfl
end
end TV

set_option Elab.async false
set_option linter.all false
set_option maxRecDepth 100000
set_option maxHeartbeats 1000000
/-! The end of a law row for defs behind FnG: sys.modules' own dict is held still beside the script. -/
namespace TV
open PySem PySem.Spec PyProof.Rows L2

theorem isDs_ints {K : PySem.W.Frag} {F : Hp} : ∀ ns : List Int, IsDs K F (ns.map V.int) (ns.map D.int)
  | [] => .nil
  | _ :: ns => .cons .int (isDs_ints ns)
section
variable {P : Program} {w : World} {K : PySem.W.Frag} {mg mb : Str → Option Value} {k : Nat} {fa a : Addr} {fd : FuncData} {x : Str} {sp : DSp} {s₁ : Shared} {vs : List Value} {ns : List Int}
theorem law_coreG (KX : K.In s₁.heap) (hns : s₁.heap.Ns mainGlobals mg) (hb : s₁.heap.Ns builtinsNs mb) (hbb : ∀ x : Str, x ≠ "__name__" → mb x = bootBuiltins x) (hlim : s₁.heap.NoLimit) (hg : s₁.gens = #[])
    (ha : s₁.heap.get? a = some { cls := .type "list", data := .seq vs.toArray }) (hr : Rm k callerA) (hKs : K.lookup sysModules = none) {oS : Obj} (eS : s₁.heap.get? sysModules = some oS)
    (F : ∀ base : Heap, K.In base → base.Ns mainGlobals mg → FnG P w K mg base CX0 k fa fd [x] (rSp K sp)) (hbind : ∀ (s : Shared) (u : Value), BindsTo s fd ⟨[u], []⟩ [(x, u)])
    (hsp : sp [.fro (ns.map D.int)] (fun _ => none) (fun _ _ _ => False) (fun d _ => d = .bl true))
    (H : Hp) (hdom : ∀ b, H b ≠ none → b = sysModules ∨ (b = a ∧ K.lookup a = none)) (Hs : H sysModules = some (.ext fun h => h.get? sysModules = some oS)) (hok : HOk P w H s₁.heap)
    (hfrz : ∀ b, b ≠ sysModules → H b = none ∨ ∃ o u, H b = some (.frz o u)) (hS : SqL K (fun b => if b = sysModules then none else H b) a (ns.map V.int)) :
    codeAny (model P w) callerA (.call (.ref fa) ⟨[.ref a], []⟩) (fun r s' => r = .ok (.ret (.bool true)) ∧ OldK s₁.heap s'.heap ∧ s'.os = s₁.os ∧ AllBare s'.gens) s₁ := by
  have noD : ∀ {b : Addr} {o : Obj} {es : Array DictEntry} {ep : Nat}, b ≠ sysModules → s₁.heap.get? b = some o → o.data = .dict es ep → H b = none := fun {b o es ep} hb e d => by
    cases q : H b with
    | none => rfl
    | some u =>
      rcases hdom b (by rw [q]; simp) with z | ⟨z, _⟩
      · exact absurd z hb
      · subst z
        rw [ha] at e
        cases e
        cases d
  have nsK : ∀ {b : Addr} {m : Str → Option Value}, b ≠ sysModules → s₁.heap.Ns b m → (hidT s₁.heap H).Ns b m := fun hb ⟨o, es, ep, e, d, r⟩ => ⟨o, es, ep, hidT_get e (noD hb e d), d, r⟩
  have hKb : K.In (hidT s₁.heap H) := fun b o e => hidT_get (KX b o e) (by
    cases q : H b with
    | none => rfl
    | some u =>
      rcases hdom b (by rw [q]; simp) with z | ⟨z, y⟩
      · subst z; rw [hKs] at e; cases e
      · subst z; rw [y] at e; cases e)
  have hM : L2.Mod K mg (hidT s₁.heap H) := ⟨hKb, nsK (by decide) hns, ⟨mb, nsK (by decide) hb, hbb⟩, let ⟨mc, h1, h2⟩ := hlim; ⟨mc, nsK (by decide) h1, h2⟩⟩
  have e0 : Env0 P w K mg (hidT s₁.heap H) callerA [] s₁ H := ⟨rfl, hM, fun b o e => of_hidT e, Nat.le_of_eq (hidT_size _ _), trivial, fun b hb => absurd (show b ∈ ([] : List Addr) from hb) (by simp), hok, AllBare.of_eq hg⟩
  have ho : HeapOk K (fun b => if b = sysModules then none else H b) (fun _ => none) H := ⟨fun b o e => (by
    by_cases z : b = sysModules
    · rw [if_pos z] at e; cases e
    · rw [if_neg z] at e; exact e), fun _ _ z => (by cases z), ⟨_, Hs, if_pos rfl, rfl⟩⟩
  refine codeAny_mono ((F (hidT s₁.heap H) hKb (nsK (by decide) hns)).goes callerA [] s₁ H ⟨[.ref a], []⟩ [.ref a] [.ref a]
    (fun v H' => v = .bl true ∧ H' sysModules = some (.ext fun h => h.get? sysModules = some oS)) (fun _ _ _ => False) hr e0 (hbind s₁ _) (.cons rfl .nil)
    ⟨[.fro (ns.map D.int)], _, fun _ => none, fun _ _ _ => False, fun d _ => d = .bl true, ho, .cons (.fro hS (isDs_ints ns)) .nil, hsp, fun v d F' M' H' g o i hd => ?_, fun _ _ _ _ _ _ _ _ _ _ _ z => z.elim⟩) fun r s' h => ?_
  · subst hd
    exact ⟨isD_bl i, g.fr sysModules _ Hs (if_pos rfl) rfl⟩
  · cases r with
    | error e => exact h.elim
    | ok fl =>
      cases fl with
      | ret u =>
        obtain ⟨v, H', os, bare, un, hok', rv, hv, hext⟩ := h
        subst hv
        have ru : u = .bool true := rv
        subst ru
        refine ⟨rfl, OldK.of_keep fun b o e => ?_, os, bare⟩
        by_cases z : b = sysModules
        · subst z
          have := (hok' _ _ hext).1
          rw [eS] at e
          cases e
          exact this
        · rcases hfrz b z with q | ⟨o', u, q⟩
          · exact un.keep b o e q (fun z => by cases z) (fun z => by cases z)
          · have h1 := hok b _ q
            have h2 := hok' b _ (un.frzs b _ _ q)
            have e1 := h1.1
            rw [e] at e1
            cases e1
            exact h2.1
      | next => exact h.elim
      | brk => exact h.elim
      | cont => exact h.elim
theorem law_callG (KX : K.In s₁.heap) (hns : s₁.heap.Ns mainGlobals mg) (hb : s₁.heap.Ns builtinsNs mb) (hbb : ∀ x : Str, x ≠ "__name__" → mb x = bootBuiltins x) (hlim : s₁.heap.NoLimit) (hg : s₁.gens = #[])
    (ha : s₁.heap.get? a = some { cls := .type "list", data := .seq vs.toArray }) (hi : IntsAre vs ns) (hl : ns.length ≤ sizeLine) (hr : Rm k callerA) (hKs : K.lookup sysModules = none) {mm : Str → Option Value} (hmm : s₁.heap.Ns sysModules mm)
    (F : ∀ base : Heap, K.In base → base.Ns mainGlobals mg → FnG P w K mg base CX0 k fa fd [x] (rSp K sp)) (hbind : ∀ (s : Shared) (u : Value), BindsTo s fd ⟨[u], []⟩ [(x, u)])
    (hsp : sp [.fro (ns.map D.int)] (fun _ => none) (fun _ _ _ => False) (fun d _ => d = .bl true)) :
    codeAny (model P w) callerA (.call (.ref fa) ⟨[.ref a], []⟩) (fun r s' => r = .ok (.ret (.bool true)) ∧ OldK s₁.heap s'.heap ∧ s'.os = s₁.os ∧ AllBare s'.gens) s₁ := by
  obtain ⟨oS, es, ep, eS, dS, _⟩ := hmm
  have has : a ≠ sysModules := fun z => by
    subst z
    rw [ha] at eS
    cases eS
    cases dS
  have rv := vals_ints hi
  have extOk : ∀ H : Hp, ObjOk P w H s₁.heap sysModules (.ext fun h => h.get? sysModules = some oS) := fun H => ⟨eS, ⟨oS, eS⟩, fun h1 h2 q z => z _ q⟩
  cases hk : K.lookup a with
  | none =>
    refine law_coreG KX hns hb hbb hlim hg ha hr hKs eS F hbind hsp (fun b => if b = sysModules then some (.ext fun h => h.get? sysModules = some oS) else if b = a then some (.frz { cls := .type "list", data := .seq vs.toArray } (.lst (ns.map V.int))) else none) (fun b z => ?_) (if_pos rfl) (fun b u q => ?_) (fun b z => ?_) ?_
    · by_cases e : b = sysModules
      · exact .inl e
      · by_cases e2 : b = a
        · exact .inr ⟨e2, hk⟩
        · exact absurd (by rw [if_neg e, if_neg e2]) z
    · by_cases e : b = sysModules
      · subst e
        dsimp only at q
        rw [if_pos rfl] at q
        cases q
        exact extOk _
      · by_cases e2 : b = a
        · subst e2
          dsimp only at q
          rw [if_neg e, if_pos rfl] at q
          cases q
          exact ⟨ha, by rw [List.length_map]; exact hl, vs, 0, rv, ha⟩
        · dsimp only at q; rw [if_neg e, if_neg e2] at q; cases q
    · by_cases e2 : b = a
      · exact .inr ⟨_, _, by rw [if_neg z, if_pos e2]⟩
      · exact .inl (by rw [if_neg z, if_neg e2])
    · exact .inl (.inr ⟨_, by show (if a = sysModules then none else _) = _; rw [if_neg has]; show (if a = sysModules then _ else _) = _; rw [if_neg has, if_pos rfl]⟩)
  | some o =>
    have e := KX a o hk
    rw [ha] at e
    cases e
    refine law_coreG KX hns hb hbb hlim hg ha hr hKs eS F hbind hsp (fun b => if b = sysModules then some (.ext fun h => h.get? sysModules = some oS) else none) (fun b z => ?_) (if_pos rfl) (fun b u q => ?_) (fun b z => .inl (if_neg z)) ?_
    · by_cases e : b = sysModules
      · exact .inl e
      · exact absurd (if_neg e) z
    · by_cases e : b = sysModules
      · subst e
        dsimp only at q
        rw [if_pos rfl] at q
        cases q
        exact extOk _
      · dsimp only at q; rw [if_neg e] at q; cases q
    · exact .inr ⟨_, vs.toArray, 0, hk, rfl, rfl, rfl, by rw [List.size_toArray, hi.length]; exact hl, rv⟩
end
/-- THE END: a law row whose law is a def behind FnG -/
theorem walk_ofG {l : PySem.W.OpenLaw} {n k : Nat} {q : Program} {loose : List Str} {XP : (Str → Option Value) → Heap → Prop} {YP : World → Heap → Prop} {d : DefRec} {K : Params → PySem.W.Frag} {sp : World → DSp} {x : Str}
    (hn : l.most = some n) (hn2 : n ≤ sizeLine) (hdf : d.params.defaults = []) (hr : Rm k callerA) (himp : importsNone q = true) (hY : ∀ (w : World) (h : Heap), YP w h → (K w.params).In h)
    (hKs : ∀ P, (K P).lookup sysModules = none)
    (F : ∀ (w : World) (mg : Str → Option Value) (fa : Addr) (h : Heap), (K w.params).In h → h.Ns mainGlobals mg → mg d.name = some (.ref fa) →
      ∃ fd : FuncData, (∀ (s : Shared) (u : Value), BindsTo s fd ⟨[u], []⟩ [(x, u)]) ∧ ∀ base : Heap, (K w.params).In base → base.Ns mainGlobals mg → FnG l.prog w (K w.params) mg base CX0 k fa fd [x] (rSp (K w.params) (sp w)))
    (hsp : ∀ (w : World) (ns : List Int), ns.length ≤ n → sp w [.fro (ns.map D.int)] (fun _ => none) (fun _ _ _ => False) (fun d _ => d = .bl true)) :
    PySem.W.WalkO q loose XP YP l.row.toRowW d [] fun f vs => PySem.call f vs :=
  Att.attach_call hn hdf fun w s₀ s₁ mg mb fa o pm cd doc a vs ns G Y hfa ho hcd hmg ha hi hl hg => by
    obtain ⟨fd, hbind, hF⟩ := F w mg fa s₁.heap (hY w _ Y) G.T.g hmg
    obtain ⟨mm, hmm, _⟩ := (G.T.seer himp).mods
    exact law_callG (hY w _ Y) G.T.g G.T.b G.T.builtins G.T.nolimit hg ha hi (Nat.le_trans hl hn2) hr (hKs _) hmm hF hbind (hsp w ns hl)
theorem lookup_none {α : Type} : ∀ (K : List (Addr × α)) (a : Addr), (K.map (·.1)).contains a = false → K.lookup a = none
  | [], _, _ => rfl
  | (b, o) :: K, a, h => by
    rw [List.map_cons, List.contains_cons, Bool.or_eq_false_iff] at h
    rw [List.lookup_cons, h.1]
    exact lookup_none K a h.2
/-- .. with the objects that the top has left, as the head writes them out -/
theorem walk_ofH {l : PySem.W.OpenLaw} {n k : Nat} {q : Program} {loose : List Str} {XP : (Str → Option Value) → Heap → Prop} {d : DefRec} {K : Params → PySem.W.Frag} {as : List Addr} {e : ∀ P, as = (K P).map (·.1)} {sp : World → DSp} {x : Str}
    (hn : l.most = some n) (hn2 : n ≤ sizeLine) (hdf : d.params.defaults = []) (hr : Rm k callerA) (himp : importsNone q = true) (hKs : as.contains sysModules = false)
    (F : ∀ (w : World) (mg : Str → Option Value) (fa : Addr) (h : Heap), (K w.params).In h → h.Ns mainGlobals mg → mg d.name = some (.ref fa) →
      ∃ fd : FuncData, (∀ (s : Shared) (u : Value), BindsTo s fd ⟨[u], []⟩ [(x, u)]) ∧ ∀ base : Heap, (K w.params).In base → base.Ns mainGlobals mg → FnG l.prog w (K w.params) mg base CX0 k fa fd [x] (rSp (K w.params) (sp w)))
    (hsp : ∀ (w : World) (ns : List Int), ns.length ≤ n → sp w [.fro (ns.map D.int)] (fun _ => none) (fun _ _ _ => False) (fun d _ => d = .bl true)) :
    PySem.W.WalkO q loose XP (PySem.W.kHook K as e).says l.row.toRowW d [] fun f vs => PySem.call f vs :=
  walk_ofG hn hn2 hdf hr himp (fun w h Y => PySem.W.kIn_of Y) (fun P => lookup_none _ _ (by rw [← e P]; exact hKs)) F hsp
end TV

set_option Elab.async false
set_option linter.all false
set_option maxRecDepth 100000
set_option maxHeartbeats 2000000
namespace K01
open PySem PySem.Spec PyProof.Rows L2 TV
def topS (i : Nat) : Stmt := PySem.Challenge.pw_holdgates_k01_names_and_rhythms.main.body.getD i (.Pass ⟨0, 0, 0, 0⟩)
abbrev s_is_made_of : Stmt := topS 4
theorem sc_is_made_of : FnScope ["thing", "signs", "most", "sign"] ["thing", "signs", "most"] (defScope s_is_made_of) := ⟨rfl, rfl, rfl, by decide +kernel, rfl, by decide +kernel, by decide +kernel⟩
abbrev s_is_name : Stmt := topS 5
theorem sc_is_name : FnScope ["thing"] ["thing"] (defScope s_is_name) := ⟨rfl, rfl, rfl, by decide +kernel, rfl, by decide +kernel, by decide +kernel⟩
abbrev s_is_rhythm : Stmt := topS 6
theorem sc_is_rhythm : FnScope ["thing"] ["thing"] (defScope s_is_rhythm) := ⟨rfl, rfl, rfl, by decide +kernel, rfl, by decide +kernel, by decide +kernel⟩
abbrev s_takes : Stmt := topS 7
theorem sc_takes : FnScope ["rhythm", "beat"] ["rhythm", "beat"] (defScope s_takes) := ⟨rfl, rfl, rfl, by decide +kernel, rfl, by decide +kernel, by decide +kernel⟩
abbrev s_times_of : Stmt := topS 8
theorem sc_times_of : FnScope ["rhythm", "beat", "rounds", "rest"] ["rhythm", "beat"] (defScope s_times_of) := ⟨rfl, rfl, rfl, by decide +kernel, rfl, by decide +kernel, by decide +kernel⟩
abbrev s_beat_of : Stmt := topS 9
theorem sc_beat_of : FnScope ["rhythm", "number", "beats", "rounds", "rest", "place", "sign"] ["rhythm", "number"] (defScope s_beat_of) := ⟨rfl, rfl, rfl, by decide +kernel, rfl, by decide +kernel, by decide +kernel⟩
abbrev s__law_pen : Stmt := topS 11
theorem sc__law_pen : FnScope ["_law_script"] ["_law_script"] (defScope s__law_pen) := ⟨rfl, rfl, rfl, by decide +kernel, rfl, by decide +kernel, by decide +kernel⟩
abbrev s__law_draw : Stmt := topS 12
theorem sc__law_draw : FnScope ["_law_pen_here", "_law_many", "_law_digit", "_law_at", "_law_cell", "_law_blend"] ["_law_pen_here", "_law_many"] (defScope s__law_draw) := ⟨rfl, rfl, rfl, by decide +kernel, rfl, by decide +kernel, by decide +kernel⟩
abbrev s__law_pick : Stmt := topS 13
theorem sc__law_pick : FnScope ["_law_pen_here", "_law_some"] ["_law_pen_here", "_law_some"] (defScope s__law_pick) := ⟨rfl, rfl, rfl, by decide +kernel, rfl, by decide +kernel, by decide +kernel⟩
abbrev s__law_names : Stmt := topS 14
theorem sc__law_names : FnScope ["_law_pen_here", "_law_many", "_law_letters", "_law_word", "_law_at", "_law_first", "_law_short", "_law_by", "_law_found", "_law_k", "_law_tail"] ["_law_pen_here", "_law_many"] (defScope s__law_names) := ⟨rfl, rfl, rfl, by decide +kernel, rfl, by decide +kernel, by decide +kernel⟩
abbrev s__law_rhythm : Stmt := topS 15
theorem sc__law_rhythm : FnScope ["_law_pen_here", "_law_signs", "_law_k"] ["_law_pen_here"] (defScope s__law_rhythm) := ⟨rfl, rfl, rfl, by decide +kernel, rfl, by decide +kernel, by decide +kernel⟩
abbrev s__law_odd : Stmt := topS 16
theorem sc__law_odd : FnScope ["_law_pen_here", "_law_some"] ["_law_pen_here"] (defScope s__law_odd) := ⟨rfl, rfl, rfl, by decide +kernel, rfl, by decide +kernel, by decide +kernel⟩
abbrev s__law_bent : Stmt := topS 17
theorem sc__law_bent : FnScope ["_law_pen_here", "_law_thing", "_law_way", "_law_signs", "_law_at", "_law_sign", "_law_some", "_law_row"] ["_law_pen_here", "_law_thing"] (defScope s__law_bent) := ⟨rfl, rfl, rfl, by decide +kernel, rfl, by decide +kernel, by decide +kernel⟩
abbrev s__law_are_signs : Stmt := topS 18
theorem sc__law_are_signs : FnScope ["_law_thing", "_law_signs", "_law_most", "_law_sign"] ["_law_thing", "_law_signs", "_law_most"] (defScope s__law_are_signs) := ⟨rfl, rfl, rfl, by decide +kernel, rfl, by decide +kernel, by decide +kernel⟩
abbrev s__law_truths : Stmt := topS 19
theorem sc__law_truths : FnScope ["_law_thing", "_law_letters"] ["_law_thing"] (defScope s__law_truths) := ⟨rfl, rfl, rfl, by decide +kernel, rfl, by decide +kernel, by decide +kernel⟩
abbrev s__law_is_number : Stmt := topS 20
theorem sc__law_is_number : FnScope ["_law_told", "_law_due"] ["_law_told", "_law_due"] (defScope s__law_is_number) := ⟨rfl, rfl, rfl, by decide +kernel, rfl, by decide +kernel, by decide +kernel⟩
abbrev s__law_counts : Stmt := topS 21
theorem sc__law_counts : FnScope ["_law_rhythm_here", "_law_far", "_law_taken", "_law_beat", "_law_k", "_law_many", "_law_size", "_law_due", "_law_one"] ["_law_rhythm_here", "_law_far"] (defScope s__law_counts) := ⟨rfl, rfl, rfl, by decide +kernel, rfl, by decide +kernel, by decide +kernel⟩
abbrev s_law : Stmt := topS 22
theorem sc_law : FnScope ["_law_script", "_law_pen_here", "_law_turn", "_law_name", "_law_rhythm_here", "_law_bent_here", "_law_things", "_law_thing", "_law_was_own", "_law_far", "_law_one"] ["_law_script"] (defScope s_law) := ⟨rfl, rfl, rfl, by decide +kernel, rfl, by decide +kernel, by decide +kernel⟩
structure Def (K : PySem.W.Frag) (mg : Str → Option Value) (x : Str) (st : Stmt) (f : Addr) (fd : FuncData) (ps : List Str) : Prop where
  fn : Fun K x x st f fd
  gl : mg x = some (.ref f)
  bi : L2.Binds K fd ps []
structure Tx (K : PySem.W.Frag) (mg : Str → Option Value) where
  f_is_made_of : Addr
  e_is_made_of : FuncData
  d_is_made_of : Def K mg "is_made_of" s_is_made_of f_is_made_of e_is_made_of ["thing", "signs", "most"]
  f_is_name : Addr
  e_is_name : FuncData
  d_is_name : Def K mg "is_name" s_is_name f_is_name e_is_name ["thing"]
  f_is_rhythm : Addr
  e_is_rhythm : FuncData
  d_is_rhythm : Def K mg "is_rhythm" s_is_rhythm f_is_rhythm e_is_rhythm ["thing"]
  f_takes : Addr
  e_takes : FuncData
  d_takes : Def K mg "takes" s_takes f_takes e_takes ["rhythm", "beat"]
  f_times_of : Addr
  e_times_of : FuncData
  d_times_of : Def K mg "times_of" s_times_of f_times_of e_times_of ["rhythm", "beat"]
  f_beat_of : Addr
  e_beat_of : FuncData
  d_beat_of : Def K mg "beat_of" s_beat_of f_beat_of e_beat_of ["rhythm", "number"]
  f__law_pen : Addr
  e__law_pen : FuncData
  d__law_pen : Def K mg "_law_pen" s__law_pen f__law_pen e__law_pen ["_law_script"]
  f__law_draw : Addr
  e__law_draw : FuncData
  d__law_draw : Def K mg "_law_draw" s__law_draw f__law_draw e__law_draw ["_law_pen_here", "_law_many"]
  f__law_pick : Addr
  e__law_pick : FuncData
  d__law_pick : Def K mg "_law_pick" s__law_pick f__law_pick e__law_pick ["_law_pen_here", "_law_some"]
  f__law_names : Addr
  e__law_names : FuncData
  d__law_names : Def K mg "_law_names" s__law_names f__law_names e__law_names ["_law_pen_here", "_law_many"]
  f__law_rhythm : Addr
  e__law_rhythm : FuncData
  d__law_rhythm : Def K mg "_law_rhythm" s__law_rhythm f__law_rhythm e__law_rhythm ["_law_pen_here"]
  f__law_odd : Addr
  e__law_odd : FuncData
  d__law_odd : Def K mg "_law_odd" s__law_odd f__law_odd e__law_odd ["_law_pen_here"]
  f__law_bent : Addr
  e__law_bent : FuncData
  d__law_bent : Def K mg "_law_bent" s__law_bent f__law_bent e__law_bent ["_law_pen_here", "_law_thing"]
  f__law_are_signs : Addr
  e__law_are_signs : FuncData
  d__law_are_signs : Def K mg "_law_are_signs" s__law_are_signs f__law_are_signs e__law_are_signs ["_law_thing", "_law_signs", "_law_most"]
  f__law_truths : Addr
  e__law_truths : FuncData
  d__law_truths : Def K mg "_law_truths" s__law_truths f__law_truths e__law_truths ["_law_thing"]
  f__law_is_number : Addr
  e__law_is_number : FuncData
  d__law_is_number : Def K mg "_law_is_number" s__law_is_number f__law_is_number e__law_is_number ["_law_told", "_law_due"]
  f__law_counts : Addr
  e__law_counts : FuncData
  d__law_counts : Def K mg "_law_counts" s__law_counts f__law_counts e__law_counts ["_law_rhythm_here", "_law_far"]
  f_law : Addr
  e_law : FuncData
  d_law : Def K mg "law" s_law f_law e_law ["_law_script"]
  m_abs : mg "abs" = none
  m_all : mg "all" = none
  m_bool : mg "bool" = none
  m_divmod : mg "divmod" = none
  m_enumerate : mg "enumerate" = none
  m_int : mg "int" = none
  m_isinstance : mg "isinstance" = none
  m_len : mg "len" = none
  m_list : mg "list" = none
  m_range : mg "range" = none
  m_repr : mg "repr" = none
  m_str : mg "str" = none
  t_LETTERS : Tok
  c_LETTERS : mg "LETTERS" = some (.str "abcdefghijklmnopqrstuvwxyz" t_LETTERS)
  t_LONGEST_NAME : Tok
  c_LONGEST_NAME : mg "LONGEST_NAME" = some (.int 8 t_LONGEST_NAME)
  t_LONGEST_RHYTHM : Tok
  c_LONGEST_RHYTHM : mg "LONGEST_RHYTHM" = some (.int 6 t_LONGEST_RHYTHM)
section
variable {P : Program} {w : World} {K : PySem.W.Frag} {mg : Str → Option Value} {base : Heap}
/-! ### the program's own -/
def madeOf (d : D) (signs : Str) (most : Int) : Bool := match d with
  | .str s => (decide (1 ≤ (s.length : Int)) && decide ((s.length : Int) ≤ most)) && s.cps.toList.all fun c => decide (c ∈ signs.cps.toList)
  | _ => false
def hasX (d : D) : Bool := match d with
  | .str s => decide (120 ∈ s.cps.toList)
  | _ => false
def sane (d : D) : Prop := (∃ t, tyD d = some t) ∧ ∀ s, d = .str s → s.length ≤ 100000
def sp_is_made_of : DSp := fun ds M _ k => ds.length = 3 ∧ ∃ d signs most, ds = [d, .str signs, .int most] ∧ sane d ∧ k (.bl (madeOf d signs most)) M
theorem ok_is_made_of (T : Tx K mg) : FnG P w K mg base CX0 1 T.f_is_made_of T.e_is_made_of ["thing", "signs", "most"] (rSp K sp_is_made_of) := by
  refine fnT T.d_is_made_of.fn sc_is_made_of (fun ds M x k h => h.1) (by decide) (fun cdv A outer s H E rm => ?_) (fun ds M x k h => h)
  refine ⟨_, (yss_cons (ys_if (PW.pt (xw_or (xt_not (xt_tru (xe_callB call_isi l_isi (by rfl) T.m_isinstance (by decide +kernel) (xa_cons (xv 0) (xa_cons (xbltn (v := .ty "str") (fun _ => .ty) (by rfl) T.m_str (by decide +kernel) rfl) xa_nil))))) (xw_or1 (xt_not (xt_chain op_le op_le l_cmpD l_cmpD xint (xe_callB call_lenD' l_lenC (by rfl) T.m_len (by decide +kernel) (xa_cons (xv 0) xa_nil)) (xv 2)))))) (yss_one (ys_ret xbl)) yss_nil)
      (yss_one (ys_ret (xe_callB (cr_all rfl) l_allC (by rfl) T.m_all (by decide +kernel) (xa_cons (xl_frz (xl_lc (own := [("sign", 3)]) (g := gName 3) rfl sc_is_made_of.nd (xi_str (xv 0)) (blkOk_by (N := ["thing", "signs", "most", "sign"]) (sc := defScope s_is_made_of) (by decide +kernel)) (tg_name (by decide)) (fun _ _ _ _ _ => pg_name (i := 3) sc_is_made_of.nd rfl (Or.inl rfl)) (fun _ _ _ _ _ => xts_nil) (fun _ _ _ _ _ => (xe_cmp op_in_sign l_inSD (xv 3) (xv 1) (by rfl))))) xa_nil))))), ?_⟩
  intro ds M k h
  obtain ⟨-, d, signs, most, rfl, ⟨⟨t, ht⟩, hs⟩, hk⟩ := h
  rw [show start0 ["thing", "signs", "most", "sign"] [d, D.str signs, D.int most] = [some d, some (.str signs), some (.int most), none] from rfl]
  cases d with
  | str z =>
    have hz := hs z rfl
    simp only [TV.wSeq, TV.wIf, TV.wOr, TV.wNot, TV.wAnd, TV.wAndV, TV.wOrV, TV.wNotV, TV.wIfE, TV.wTru, TV.wCB, TV.wCons, TV.wVar, TV.wC, TV.wNil, TV.wTest, TV.wChain, TV.wRet, TV.wRetN, TV.wNext, TV.wSet, TV.wDrop, TV.wFrz, TV.wMut, TV.wDisp, TV.wTup, TV.wOp, TV.wCall, TV.wDget, TV.wDput, TV.wFor, TV.wLc, TV.wiL, TV.wiT, TV.wiS, TV.wiR1, TV.wiR2, TV.wiEnumS, TV.wiEnum, TV.wgName, TV.wgTup, TV.wgCons, TV.wgNil, TV.wPar, TV.wPar3, TV.wAsg, TV.wUn, TV.wBM, TV.wApp, TV.wSetI, TV.wListC, TV.wSlL, TV.wSlS, TV.wSlT, TV.wNo, TV.wPart, TV.wYes, TV.wRev, TV.wMelt, TV.wNever, TV.wipe0, TV.wDictM, TV.wDictF, TV.wDict0F, TV.wPairs, List.getElem?_cons_zero, List.getElem?_cons_succ, List.set_cons_zero, List.set_cons_succ, Option.some.injEq, exists_eq_left', exists_eq_left, List.cons.injEq, and_true, true_and, TV.D.str.injEq, TV.D.int.injEq, TV.D.bl.injEq, TV.D.lst.injEq, TV.D.tup.injEq, TV.D.obj.injEq, List.map_cons, List.map_nil, TV.cmpD, TV.subD, TV.intD, TV.inSD, TV.ninSD, TV.isND, TV.notND, TV.isBD, TV.divmodC, TV.absC, isiC', TV.len_str, TV.len_lst, TV.len_tup, TV.tru_bl, TV.tru_int, TV.tru_str, TV.tru_lst, TV.tru_tup, TV.add_int, TV.add_str, TV.add_lst, TV.add_tup, TV.mul_int, TV.mul_str, TV.ix_str, TV.ix_lst, TV.ix_tup, TV.count_str, TV.eq_str, TV.ne_str, TV.eq_int, TV.ne_int, TV.eq_lst, TV.ne_lst, TV.sgx, TV.vw_non, TV.vw_bl, TV.vw_int, TV.vw_str, TV.vw_tup, TV.vw_lst, TV.vw_fro, TV.vw_dct, TV.key_str, TV.key_int, false_or, or_false, List.length_nil, TV.ty_non, TV.ty_bl, TV.ty_int, TV.ty_str, TV.ty_tup, TV.ty_lst, TV.ty_dct, TV.tn_str, TV.tn_int, TV.tn_bool, TV.tn_list, TV.tn_tuple, TV.tn_dict, TV.isT, String.reduceBEq, Bool.and_false, Bool.or_false, Bool.false_and, Bool.and_true, Bool.true_or, Bool.or_true, and_assoc, TV.D.ty.injEq, reduceCtorEq, exists_const, exists_and_left, exists_and_right, if_true, if_false, Bool.not_true, Bool.not_false, Bool.false_eq_true, reduceIte]
    refine ⟨hz, ?_⟩
    by_cases h1 : (1 : Int) ≤ (z.length : Int)
    · by_cases h2 : (z.length : Int) ≤ most
      · simp only [h1, h2, decide_true, Bool.not_true, if_true, Bool.false_eq_true, if_false]
        refine ⟨by rw [signs_len]; exact hz, fun i acc M' => M' = M ∧ acc = (z.cps.toList.take i).map fun c => D.bl (decide (c ∈ signs.cps.toList)), ⟨rfl, rfl⟩, fun i d acc M' hi ⟨hM, ha⟩ => ?_, fun acc M' ⟨hM, ha⟩ => ?_⟩
        · obtain ⟨c, hc, rfl⟩ := signs_get hi
          exact ⟨c, rfl, hM, by rw [map_step hc, ha]⟩
        · subst hM ha
          refine ⟨_, (z.cps.toList.map fun c => decide (c ∈ signs.cps.toList)), rfl, ?_, ?_⟩
          · rw [List.map_map, signs_len, List.take_of_length_le (by rw [Array.length_toList]; exact Nat.le_refl _)]; rfl
          · simpa [madeOf, h1, h2] using hk
      · simpa [madeOf, h1, h2] using hk
    · simpa [madeOf, h1] using hk
  | _ =>
    simp only [TV.wSeq, TV.wIf, TV.wOr, TV.wNot, TV.wAnd, TV.wAndV, TV.wOrV, TV.wNotV, TV.wIfE, TV.wTru, TV.wCB, TV.wCons, TV.wVar, TV.wC, TV.wNil, TV.wTest, TV.wChain, TV.wRet, TV.wRetN, TV.wNext, TV.wSet, TV.wDrop, TV.wFrz, TV.wMut, TV.wDisp, TV.wTup, TV.wOp, TV.wCall, TV.wDget, TV.wDput, TV.wFor, TV.wLc, TV.wiL, TV.wiT, TV.wiS, TV.wiR1, TV.wiR2, TV.wiEnumS, TV.wiEnum, TV.wgName, TV.wgTup, TV.wgCons, TV.wgNil, TV.wPar, TV.wPar3, TV.wAsg, TV.wUn, TV.wBM, TV.wApp, TV.wSetI, TV.wListC, TV.wSlL, TV.wSlS, TV.wSlT, TV.wNo, TV.wPart, TV.wYes, TV.wRev, TV.wMelt, TV.wNever, TV.wipe0, TV.wDictM, TV.wDictF, TV.wDict0F, TV.wPairs, List.getElem?_cons_zero, List.getElem?_cons_succ, List.set_cons_zero, List.set_cons_succ, Option.some.injEq, exists_eq_left', exists_eq_left, List.cons.injEq, and_true, true_and, TV.D.str.injEq, TV.D.int.injEq, TV.D.bl.injEq, TV.D.lst.injEq, TV.D.tup.injEq, TV.D.obj.injEq, List.map_cons, List.map_nil, TV.cmpD, TV.subD, TV.intD, TV.inSD, TV.ninSD, TV.isND, TV.notND, TV.isBD, TV.divmodC, TV.absC, isiC', TV.len_str, TV.len_lst, TV.len_tup, TV.tru_bl, TV.tru_int, TV.tru_str, TV.tru_lst, TV.tru_tup, TV.add_int, TV.add_str, TV.add_lst, TV.add_tup, TV.mul_int, TV.mul_str, TV.ix_str, TV.ix_lst, TV.ix_tup, TV.count_str, TV.eq_str, TV.ne_str, TV.eq_int, TV.ne_int, TV.eq_lst, TV.ne_lst, TV.sgx, TV.vw_non, TV.vw_bl, TV.vw_int, TV.vw_str, TV.vw_tup, TV.vw_lst, TV.vw_fro, TV.vw_dct, TV.key_str, TV.key_int, false_or, or_false, List.length_nil, TV.ty_non, TV.ty_bl, TV.ty_int, TV.ty_str, TV.ty_tup, TV.ty_lst, TV.ty_dct, TV.tn_str, TV.tn_int, TV.tn_bool, TV.tn_list, TV.tn_tuple, TV.tn_dict, TV.isT, String.reduceBEq, Bool.and_false, Bool.or_false, Bool.false_and, Bool.and_true, Bool.true_or, Bool.or_true, and_assoc, TV.D.ty.injEq, reduceCtorEq, exists_const, exists_and_left, exists_and_right, if_true, if_false, Bool.not_true, Bool.not_false, Bool.false_eq_true, reduceIte]
    first | exact hk | (simp [tyD] at ht)
def letters : Str := "abcdefghijklmnopqrstuvwxyz"
def isNm (d : D) : Bool := madeOf d letters 8
def isRh (d : D) : Bool := madeOf d "x-" 6 && hasX d
def sp_is_name : DSp := fun ds M _ k => ds.length = 1 ∧ ∃ d, ds = [d] ∧ sane d ∧ k (.bl (isNm d)) M
theorem ok_is_name (T : Tx K mg) : FnG P w K mg base CX0 2 T.f_is_name T.e_is_name ["thing"] (rSp K sp_is_name) := by
  refine fnT T.d_is_name.fn sc_is_name (fun ds M x k h => h.1) (by decide) (fun cdv A outer s H E rm => ?_) (fun ds M x k h => h)
  refine ⟨_, (yss_one (ys_ret (xcall (ok_is_made_of T) (rm.mono (by decide)) (by rfl) T.d_is_made_of.gl T.d_is_made_of.fn.kp T.d_is_made_of.bi pass0 (xa_cons (xv 0) (xa_cons (xglob (v := .str "abcdefghijklmnopqrstuvwxyz") (fun _ => .str) (by rfl) T.c_LETTERS ⟨_, rfl⟩) (xa_cons (xglob (v := .int 8) (fun _ => .int) (by rfl) T.c_LONGEST_NAME ⟨_, rfl⟩) xa_nil)))))), ?_⟩
  intro ds M k h
  obtain ⟨-, d, rfl, hs, hk⟩ := h
  rw [show start0 ["thing"] [d] = [some d] from rfl]
  simp only [TV.wSeq, TV.wIf, TV.wOr, TV.wNot, TV.wAnd, TV.wAndV, TV.wOrV, TV.wNotV, TV.wIfE, TV.wTru, TV.wCB, TV.wCons, TV.wVar, TV.wC, TV.wNil, TV.wTest, TV.wChain, TV.wRet, TV.wRetN, TV.wNext, TV.wSet, TV.wDrop, TV.wFrz, TV.wMut, TV.wDisp, TV.wTup, TV.wOp, TV.wCall, TV.wDget, TV.wDput, TV.wFor, TV.wLc, TV.wiL, TV.wiT, TV.wiS, TV.wiR1, TV.wiR2, TV.wiEnumS, TV.wiEnum, TV.wgName, TV.wgTup, TV.wgCons, TV.wgNil, TV.wPar, TV.wPar3, TV.wAsg, TV.wUn, TV.wBM, TV.wApp, TV.wSetI, TV.wListC, TV.wSlL, TV.wSlS, TV.wSlT, TV.wNo, TV.wPart, TV.wYes, TV.wRev, TV.wMelt, TV.wNever, TV.wipe0, TV.wDictM, TV.wDictF, TV.wDict0F, TV.wPairs, List.getElem?_cons_zero, List.getElem?_cons_succ, List.set_cons_zero, List.set_cons_succ, Option.some.injEq, exists_eq_left', exists_eq_left, List.cons.injEq, and_true, true_and, TV.D.str.injEq, TV.D.int.injEq, TV.D.bl.injEq, TV.D.lst.injEq, TV.D.tup.injEq, TV.D.obj.injEq, List.map_cons, List.map_nil, TV.cmpD, TV.subD, TV.intD, TV.inSD, TV.ninSD, TV.isND, TV.notND, TV.isBD, TV.divmodC, TV.absC, isiC', TV.len_str, TV.len_lst, TV.len_tup, TV.tru_bl, TV.tru_int, TV.tru_str, TV.tru_lst, TV.tru_tup, TV.add_int, TV.add_str, TV.add_lst, TV.add_tup, TV.mul_int, TV.mul_str, TV.ix_str, TV.ix_lst, TV.ix_tup, TV.count_str, TV.eq_str, TV.ne_str, TV.eq_int, TV.ne_int, TV.eq_lst, TV.ne_lst, TV.sgx, TV.vw_non, TV.vw_bl, TV.vw_int, TV.vw_str, TV.vw_tup, TV.vw_lst, TV.vw_fro, TV.vw_dct, TV.key_str, TV.key_int, false_or, or_false, List.length_nil, TV.ty_non, TV.ty_bl, TV.ty_int, TV.ty_str, TV.ty_tup, TV.ty_lst, TV.ty_dct, TV.tn_str, TV.tn_int, TV.tn_bool, TV.tn_list, TV.tn_tuple, TV.tn_dict, TV.isT, String.reduceBEq, Bool.and_false, Bool.or_false, Bool.false_and, Bool.and_true, Bool.true_or, Bool.or_true, and_assoc, TV.D.ty.injEq, reduceCtorEq, exists_const, exists_and_left, exists_and_right, if_true, if_false, Bool.not_true, Bool.not_false, Bool.false_eq_true, reduceIte]
  exact ⟨rfl, d, _, _, rfl, hs, hk⟩
def sp_is_rhythm : DSp := fun ds M _ k => ds.length = 1 ∧ ∃ d, ds = [d] ∧ sane d ∧ k (.bl (isRh d)) M
theorem ok_is_rhythm (T : Tx K mg) : FnG P w K mg base CX0 2 T.f_is_rhythm T.e_is_rhythm ["thing"] (rSp K sp_is_rhythm) := by
  refine fnT T.d_is_rhythm.fn sc_is_rhythm (fun ds M x k h => h.1) (by decide) (fun cdv A outer s H E rm => ?_) (fun ds M x k h => h)
  refine ⟨_, (yss_one (ys_ret (xe_and (xcall (ok_is_made_of T) (rm.mono (by decide)) (by rfl) T.d_is_made_of.gl T.d_is_made_of.fn.kp T.d_is_made_of.bi pass0 (xa_cons (xv 0) (xa_cons xstr (xa_cons (xglob (v := .int 6) (fun _ => .int) (by rfl) T.c_LONGEST_RHYTHM ⟨_, rfl⟩) xa_nil)))) (xe_one (xe_cmp op_in_sign l_inSD xstr (xv 0) (by rfl)))))), ?_⟩
  intro ds M k h
  obtain ⟨-, d, rfl, hs, hk⟩ := h
  rw [show start0 ["thing"] [d] = [some d] from rfl]
  simp only [TV.wSeq, TV.wIf, TV.wOr, TV.wNot, TV.wAnd, TV.wAndV, TV.wOrV, TV.wNotV, TV.wIfE, TV.wTru, TV.wCB, TV.wCons, TV.wVar, TV.wC, TV.wNil, TV.wTest, TV.wChain, TV.wRet, TV.wRetN, TV.wNext, TV.wSet, TV.wDrop, TV.wFrz, TV.wMut, TV.wDisp, TV.wTup, TV.wOp, TV.wCall, TV.wDget, TV.wDput, TV.wFor, TV.wLc, TV.wiL, TV.wiT, TV.wiS, TV.wiR1, TV.wiR2, TV.wiEnumS, TV.wiEnum, TV.wgName, TV.wgTup, TV.wgCons, TV.wgNil, TV.wPar, TV.wPar3, TV.wAsg, TV.wUn, TV.wBM, TV.wApp, TV.wSetI, TV.wListC, TV.wSlL, TV.wSlS, TV.wSlT, TV.wNo, TV.wPart, TV.wYes, TV.wRev, TV.wMelt, TV.wNever, TV.wipe0, TV.wDictM, TV.wDictF, TV.wDict0F, TV.wPairs, List.getElem?_cons_zero, List.getElem?_cons_succ, List.set_cons_zero, List.set_cons_succ, Option.some.injEq, exists_eq_left', exists_eq_left, List.cons.injEq, and_true, true_and, TV.D.str.injEq, TV.D.int.injEq, TV.D.bl.injEq, TV.D.lst.injEq, TV.D.tup.injEq, TV.D.obj.injEq, List.map_cons, List.map_nil, TV.cmpD, TV.subD, TV.intD, TV.inSD, TV.ninSD, TV.isND, TV.notND, TV.isBD, TV.divmodC, TV.absC, isiC', TV.len_str, TV.len_lst, TV.len_tup, TV.tru_bl, TV.tru_int, TV.tru_str, TV.tru_lst, TV.tru_tup, TV.add_int, TV.add_str, TV.add_lst, TV.add_tup, TV.mul_int, TV.mul_str, TV.ix_str, TV.ix_lst, TV.ix_tup, TV.count_str, TV.eq_str, TV.ne_str, TV.eq_int, TV.ne_int, TV.eq_lst, TV.ne_lst, TV.sgx, TV.vw_non, TV.vw_bl, TV.vw_int, TV.vw_str, TV.vw_tup, TV.vw_lst, TV.vw_fro, TV.vw_dct, TV.key_str, TV.key_int, false_or, or_false, List.length_nil, TV.ty_non, TV.ty_bl, TV.ty_int, TV.ty_str, TV.ty_tup, TV.ty_lst, TV.ty_dct, TV.tn_str, TV.tn_int, TV.tn_bool, TV.tn_list, TV.tn_tuple, TV.tn_dict, TV.isT, String.reduceBEq, Bool.and_false, Bool.or_false, Bool.false_and, Bool.and_true, Bool.true_or, Bool.or_true, and_assoc, TV.D.ty.injEq, reduceCtorEq, exists_const, exists_and_left, exists_and_right, if_true, if_false, Bool.not_true, Bool.not_false, Bool.false_eq_true, reduceIte]
  refine ⟨rfl, d, _, _, rfl, hs, _, rfl, ?_⟩
  unfold isRh at hk
  cases e : madeOf d "x-" 6 with
  | false => rw [e] at hk; exact hk
  | true =>
    rw [e, Bool.true_and] at hk
    rw [if_pos rfl]
    cases d with
    | str z => exact ⟨120, x_eq, z, rfl, hk⟩
    | _ => cases e
/-! rhythms -/
def cnt (z : Str) : Int := Txt.count z "x"
def sg (z : Str) (i : Int) : Bool := decide (z.cps.toList[i.toNat]? = some 120)
theorem atI_in {α : Type} {l : List α} {i : Int} (h0 : 0 ≤ i) (h1 : i < l.length) : ∃ c, l[i.toNat]? = some c ∧ atI l i = some c := by
  have hl : i.toNat < l.length := by omega
  refine ⟨l[i.toNat], List.getElem?_eq_getElem hl, ?_⟩
  unfold atI ixN
  rw [if_pos h0, if_pos h1]
  exact List.getElem?_eq_getElem hl
theorem str_len (z : Str) : z.cps.toList.length = z.length := Array.length_toList
def takesB (z : Str) (b : Int) : Bool := decide (1 ≤ b) && sg z ((b - 1) % z.length)
def sp_takes : DSp := fun ds M _ k => ds.length = 2 ∧ ∃ z b, ds = [.str z, .int b] ∧ 1 ≤ z.length ∧ z.length ≤ 100000 ∧ k (.bl (takesB z b)) M
theorem ok_takes (T : Tx K mg) : FnG P w K mg base CX0 1 T.f_takes T.e_takes ["rhythm", "beat"] (rSp K sp_takes) := by
  refine fnT T.d_takes.fn sc_takes (fun ds M x k h => h.1) (by decide) (fun cdv A outer s H E rm => ?_) (fun ds M x k h => h)
  refine ⟨_, (yss_one (ys_ret (xe_and (xe_cmp op_ge l_cmpD (xv 1) xint (nomark _)) (xe_one (xe_cmp (op_eqE rm.u64) l_eqE (xe_ix (xv 0) (xe_op op_mod l_intD (xe_op op_sub l_subD (xv 1) xint) (xe_callB call_lenD' l_lenC (by rfl) T.m_len (by decide +kernel) (xa_cons (xv 0) xa_nil))) (fun _ _ => rfl)) xstr (nomark _)))))), ?_⟩
  intro ds M k h
  obtain ⟨-, z, b, rfl, h1, h2, hk⟩ := h
  rw [show start0 ["rhythm", "beat"] [D.str z, D.int b] = [some (.str z), some (.int b)] from rfl]
  simp only [TV.wSeq, TV.wIf, TV.wOr, TV.wNot, TV.wAnd, TV.wAndV, TV.wOrV, TV.wNotV, TV.wIfE, TV.wTru, TV.wCB, TV.wCons, TV.wVar, TV.wC, TV.wNil, TV.wTest, TV.wChain, TV.wRet, TV.wRetN, TV.wNext, TV.wSet, TV.wDrop, TV.wFrz, TV.wMut, TV.wDisp, TV.wTup, TV.wOp, TV.wCall, TV.wDget, TV.wDput, TV.wFor, TV.wLc, TV.wiL, TV.wiT, TV.wiS, TV.wiR1, TV.wiR2, TV.wiEnumS, TV.wiEnum, TV.wgName, TV.wgTup, TV.wgCons, TV.wgNil, TV.wPar, TV.wPar3, TV.wAsg, TV.wUn, TV.wBM, TV.wApp, TV.wSetI, TV.wListC, TV.wSlL, TV.wSlS, TV.wSlT, TV.wNo, TV.wPart, TV.wYes, TV.wRev, TV.wMelt, TV.wNever, TV.wipe0, TV.wDictM, TV.wDictF, TV.wDict0F, TV.wPairs, List.getElem?_cons_zero, List.getElem?_cons_succ, List.set_cons_zero, List.set_cons_succ, Option.some.injEq, exists_eq_left', exists_eq_left, List.cons.injEq, and_true, true_and, TV.D.str.injEq, TV.D.int.injEq, TV.D.bl.injEq, TV.D.lst.injEq, TV.D.tup.injEq, TV.D.obj.injEq, List.map_cons, List.map_nil, TV.cmpD, TV.subD, TV.intD, TV.inSD, TV.ninSD, TV.isND, TV.notND, TV.isBD, TV.divmodC, TV.absC, isiC', TV.len_str, TV.len_lst, TV.len_tup, TV.tru_bl, TV.tru_int, TV.tru_str, TV.tru_lst, TV.tru_tup, TV.add_int, TV.add_str, TV.add_lst, TV.add_tup, TV.mul_int, TV.mul_str, TV.ix_str, TV.ix_lst, TV.ix_tup, TV.count_str, TV.eq_str, TV.ne_str, TV.eq_int, TV.ne_int, TV.eq_lst, TV.ne_lst, TV.sgx, TV.vw_non, TV.vw_bl, TV.vw_int, TV.vw_str, TV.vw_tup, TV.vw_lst, TV.vw_fro, TV.vw_dct, TV.key_str, TV.key_int, false_or, or_false, List.length_nil, TV.ty_non, TV.ty_bl, TV.ty_int, TV.ty_str, TV.ty_tup, TV.ty_lst, TV.ty_dct, TV.tn_str, TV.tn_int, TV.tn_bool, TV.tn_list, TV.tn_tuple, TV.tn_dict, TV.isT, String.reduceBEq, Bool.and_false, Bool.or_false, Bool.false_and, Bool.and_true, Bool.true_or, Bool.or_true, and_assoc, TV.D.ty.injEq, reduceCtorEq, exists_const, exists_and_left, exists_and_right, if_true, if_false, Bool.not_true, Bool.not_false, Bool.false_eq_true, reduceIte]
  by_cases hb : 1 ≤ b
  · simp only [hb, decide_true, if_true]
    obtain ⟨c, e1, e2⟩ := atI_in (l := z.cps.toList) (i := (b - 1) % z.length) (Int.emod_nonneg _ (by omega)) (by rw [str_len]; exact Int.emod_lt_of_pos _ (by omega))
    refine ⟨h2, by omega, h2, c, e2, ?_⟩
    simpa [takesB, hb, sg, e1] using hk
  · simpa [takesB, hb] using hk
theorem log_of {i : Int} {n : Nat} (h0 : 0 ≤ i) (h : i < 2 ^ n) (hn : 0 < n) : i.natAbs.log2 < n := by
  by_cases z : i.natAbs = 0
  · rw [z]; simpa using hn
  · refine (Nat.log2_lt z).mpr ?_
    have e : (i.natAbs : Int) < ((2 ^ n : Nat) : Int) := by
      rw [Int.natAbs_of_nonneg h0]; simpa using h
    exact Int.ofNat_lt.mp e
theorem two_mono {i : Int} {a b : Nat} (h : i < 2 ^ a) (hab : a ≤ b) : i < 2 ^ b := Int.lt_of_lt_of_le h (by
  have := Nat.pow_le_pow_right (n := 2) (by decide) hab
  exact_mod_cast this)
theorem div_lt {b m : Int} {n : Nat} (h0 : 0 ≤ b) (h : b < 2 ^ n) (hm : 1 ≤ m) : 0 ≤ b / m ∧ b / m < 2 ^ n :=
  ⟨Int.ediv_nonneg h0 (by omega), Int.lt_of_le_of_lt (Int.ediv_le_self m h0) h⟩
theorem mulW {i j : Int} (h0 : 0 ≤ i) (h : i < 2 ^ 1000) (g0 : 0 ≤ j) (g : j < 2 ^ 1000) : CMulW i j := by
  have := log_of h0 h (by decide)
  have := log_of g0 g (by decide)
  show _ + _ < 1000000
  omega
def timesI (z : Str) (b : Int) : Int := b / z.length * cnt z + cnt (cutS z none (some (b % z.length)))
def sp_times_of : DSp := fun ds M _ k => ds.length = 2 ∧ ∃ z b, ds = [.str z, .int b] ∧ 1 ≤ z.length ∧ z.length ≤ 1000 ∧ 0 ≤ cnt z ∧ cnt z ≤ 1000 ∧ 0 ≤ b ∧ b < 2 ^ 1000 ∧ k (.int (timesI z b)) M
theorem ok_times_of (T : Tx K mg) : FnG P w K mg base CX0 1 T.f_times_of T.e_times_of ["rhythm", "beat"] (rSp K sp_times_of) := by
  refine fnT T.d_times_of.fn sc_times_of (fun ds M x k h => h.1) (by decide) (fun cdv A outer s H E rm => ?_) (fun ds M x k h => h)
  refine ⟨_, (yss_cons (ys_asg (xe_callB call_divmod l_divmodC (by rfl) T.m_divmod (by decide +kernel) (xa_cons (xv 1) (xa_cons (xe_callB call_lenD' l_lenC (by rfl) T.m_len (by decide +kernel) (xa_cons (xv 0) xa_nil)) xa_nil))) (xg_tup rfl (xgs_cons (xg_name (i := 2) sc_times_of.nd rfl (by first | exact Or.inl rfl | exact Or.inr rfl)) (xgs_cons (xg_name (i := 3) sc_times_of.nd rfl (by first | exact Or.inl rfl | exact Or.inr rfl)) xgs_nil))))
      (yss_one (ys_ret (xe_op op_addD l_addD (xe_op op_mulD l_mulD (xv 2) (xe_bm PySem.F.plainAttrs_str PySem.F.slot_str_count PySem.F.type_str_count mt_count l_countM (by decide) (xv 0) (xa_cons xstr xa_nil))) (xe_bm PySem.F.plainAttrs_str PySem.F.slot_str_count PySem.F.type_str_count mt_count l_countM (by decide) (xe_sliceS (xv 0) xo_none (xo_some (xv 3))) (xa_cons xstr xa_nil)))))), ?_⟩
  intro ds M k h
  obtain ⟨-, z, b, rfl, h1, h2, c1, c2, h3, h4, hk⟩ := h
  rw [show start0 ["rhythm", "beat", "rounds", "rest"] [D.str z, D.int b] = [some (.str z), some (.int b), none, none] from rfl]
  simp only [TV.wSeq, TV.wIf, TV.wOr, TV.wNot, TV.wAnd, TV.wAndV, TV.wOrV, TV.wNotV, TV.wIfE, TV.wTru, TV.wCB, TV.wCons, TV.wVar, TV.wC, TV.wNil, TV.wTest, TV.wChain, TV.wRet, TV.wRetN, TV.wNext, TV.wSet, TV.wDrop, TV.wFrz, TV.wMut, TV.wDisp, TV.wTup, TV.wOp, TV.wCall, TV.wDget, TV.wDput, TV.wFor, TV.wLc, TV.wiL, TV.wiT, TV.wiS, TV.wiR1, TV.wiR2, TV.wiEnumS, TV.wiEnum, TV.wgName, TV.wgTup, TV.wgCons, TV.wgNil, TV.wPar, TV.wPar3, TV.wAsg, TV.wUn, TV.wBM, TV.wApp, TV.wSetI, TV.wListC, TV.wSlL, TV.wSlS, TV.wSlT, TV.wNo, TV.wPart, TV.wYes, TV.wRev, TV.wMelt, TV.wNever, TV.wipe0, TV.wDictM, TV.wDictF, TV.wDict0F, TV.wPairs, List.getElem?_cons_zero, List.getElem?_cons_succ, List.set_cons_zero, List.set_cons_succ, Option.some.injEq, exists_eq_left', exists_eq_left, List.cons.injEq, and_true, true_and, TV.D.str.injEq, TV.D.int.injEq, TV.D.bl.injEq, TV.D.lst.injEq, TV.D.tup.injEq, TV.D.obj.injEq, List.map_cons, List.map_nil, TV.cmpD, TV.subD, TV.intD, TV.inSD, TV.ninSD, TV.isND, TV.notND, TV.isBD, TV.divmodC, TV.absC, isiC', TV.len_str, TV.len_lst, TV.len_tup, TV.tru_bl, TV.tru_int, TV.tru_str, TV.tru_lst, TV.tru_tup, TV.add_int, TV.add_str, TV.add_lst, TV.add_tup, TV.mul_int, TV.mul_str, TV.ix_str, TV.ix_lst, TV.ix_tup, TV.count_str, TV.eq_str, TV.ne_str, TV.eq_int, TV.ne_int, TV.eq_lst, TV.ne_lst, TV.sgx, TV.vw_non, TV.vw_bl, TV.vw_int, TV.vw_str, TV.vw_tup, TV.vw_lst, TV.vw_fro, TV.vw_dct, TV.key_str, TV.key_int, false_or, or_false, List.length_nil, TV.ty_non, TV.ty_bl, TV.ty_int, TV.ty_str, TV.ty_tup, TV.ty_lst, TV.ty_dct, TV.tn_str, TV.tn_int, TV.tn_bool, TV.tn_list, TV.tn_tuple, TV.tn_dict, TV.isT, String.reduceBEq, Bool.and_false, Bool.or_false, Bool.false_and, Bool.and_true, Bool.true_or, Bool.or_true, and_assoc, TV.D.ty.injEq, reduceCtorEq, exists_const, exists_and_left, exists_and_right, if_true, if_false, Bool.not_true, Bool.not_false, Bool.false_eq_true, reduceIte]
  have dl := div_lt (m := z.length) h3 h4 (by omega)
  refine ⟨by omega, ⟨by omega, by omega⟩, rfl, mulW dl.1 dl.2 c1 (Int.lt_of_le_of_lt c2 (by decide +kernel)), by omega, hk⟩
theorem fm_range {β : Type} {keep : Nat → Bool} {val : Nat → β} (i : Nat) : fmD keep val (List.range (i + 1)) = fmD keep val (List.range i) ++ (if keep i then [val i] else []) := by
  unfold fmD
  rw [List.range_succ, List.filter_append, List.map_append]
  cases e : keep i <;> simp [List.filter, e]
theorem sg_at {z : Str} {i c : Nat} (h : z.cps.toList[i]? = some c) : sg z (i : Int) = decide (c = 120) := by
  unfold sg
  rw [Int.toNat_natCast, h]
  by_cases e : c = 120
  · subst e; rfl
  · rw [decide_eq_false e, decide_eq_false (fun z => e (Option.some.inj z))]
def bts (z : Str) : List Int := ((List.range z.length).filter fun (i : Nat) => sg z (i : Int)).map fun (i : Nat) => (i : Int) + 1
def beatI (z : Str) (n : Int) : Int := n / (bts z).length * z.length + ((bts z)[(n % (bts z).length).toNat]?).getD 0
def sp_beat_of : DSp := fun ds M _ k => ds.length = 2 ∧ ∃ z n, ds = [.str z, .int n] ∧ z.length ≤ 1000 ∧ 0 < (bts z).length ∧ 0 ≤ n ∧ n < 2 ^ 1000 ∧ k (.int (beatI z n)) M
theorem ok_beat_of (T : Tx K mg) : FnG P w K mg base CX0 1 T.f_beat_of T.e_beat_of ["rhythm", "number"] (rSp K sp_beat_of) := by
  refine fnT T.d_beat_of.fn sc_beat_of (fun ds M x k h => h.1) (by decide) (fun cdv A outer s H E rm => ?_) (fun ds M x k h => h)
  refine ⟨_, (yss_cons (ys_setLcF (i := 2) (own := [("place", 5), ("sign", 6)]) (g := gTup K 2 (gCons (gName 5) (gCons (gName 6) (gNil)))) rfl sc_beat_of.nd rfl rfl (sw_true rfl rfl rfl (by decide +kernel)) (xi_enumS (by rfl) T.m_enumerate (xa_cons (xv 0) xa_nil)) (blkOk_by (N := ["rhythm", "number", "beats", "rounds", "rest", "place", "sign"]) (sc := defScope s_beat_of) (by decide +kernel)) (tg_tup2 (by decide) (by decide)) (fun _ _ _ _ _ => pg_tup rfl (pgs_cons (pg_name (i := 5) sc_beat_of.nd rfl (Or.inl rfl)) (pgs_cons (pg_name (i := 6) sc_beat_of.nd rfl (Or.inl rfl)) pgs_nil))) (fun _ _ _ _ _ => xts_one (xt_cmp (op_eqE rm.u64) l_eqE (xv 6) xstr (nomark _))) (fun _ _ _ _ _ => (xe_op op_addD l_addD (xv 5) xint)))
      (yss_cons (ys_asg (xe_callB call_divmod l_divmodC (by rfl) T.m_divmod (by decide +kernel) (xa_cons (xv 1) (xa_cons (xe_callB call_lenD' l_lenC (by rfl) T.m_len (by decide +kernel) (xa_cons (xv 2) xa_nil)) xa_nil))) (xg_tup rfl (xgs_cons (xg_name (i := 3) sc_beat_of.nd rfl (by first | exact Or.inl rfl | exact Or.inr rfl)) (xgs_cons (xg_name (i := 4) sc_beat_of.nd rfl (by first | exact Or.inl rfl | exact Or.inr rfl)) xgs_nil))))
      (yss_one (ys_ret (xe_op op_addD l_addD (xe_op op_mulD l_mulD (xv 3) (xe_callB call_lenD' l_lenC (by rfl) T.m_len (by decide +kernel) (xa_cons (xv 0) xa_nil))) (xe_ix (xv 2) (xv 4) (fun _ _ => rfl))))))), ?_⟩
  intro ds M k h
  obtain ⟨-, z, n, rfl, h1, h2, h3, h4, hk⟩ := h
  rw [show start0 ["rhythm", "number", "beats", "rounds", "rest", "place", "sign"] [D.str z, D.int n] = [some (.str z), some (.int n), none, none, none, none, none] from rfl]
  simp only [TV.wSeq, TV.wIf, TV.wOr, TV.wNot, TV.wAnd, TV.wAndV, TV.wOrV, TV.wNotV, TV.wIfE, TV.wTru, TV.wCB, TV.wCons, TV.wVar, TV.wC, TV.wNil, TV.wTest, TV.wChain, TV.wRet, TV.wRetN, TV.wNext, TV.wSet, TV.wDrop, TV.wFrz, TV.wMut, TV.wDisp, TV.wTup, TV.wOp, TV.wCall, TV.wDget, TV.wDput, TV.wFor, TV.wLc, TV.wiL, TV.wiT, TV.wiS, TV.wiR1, TV.wiR2, TV.wiEnumS, TV.wiEnum, TV.wgName, TV.wgTup, TV.wgCons, TV.wgNil, TV.wPar, TV.wPar3, TV.wAsg, TV.wUn, TV.wBM, TV.wApp, TV.wSetI, TV.wListC, TV.wSlL, TV.wSlS, TV.wSlT, TV.wNo, TV.wPart, TV.wYes, TV.wRev, TV.wMelt, TV.wNever, TV.wipe0, TV.wDictM, TV.wDictF, TV.wDict0F, TV.wPairs, List.getElem?_cons_zero, List.getElem?_cons_succ, List.set_cons_zero, List.set_cons_succ, Option.some.injEq, exists_eq_left', exists_eq_left, List.cons.injEq, and_true, true_and, TV.D.str.injEq, TV.D.int.injEq, TV.D.bl.injEq, TV.D.lst.injEq, TV.D.tup.injEq, TV.D.obj.injEq, List.map_cons, List.map_nil, TV.cmpD, TV.subD, TV.intD, TV.inSD, TV.ninSD, TV.isND, TV.notND, TV.isBD, TV.divmodC, TV.absC, isiC', TV.len_str, TV.len_lst, TV.len_tup, TV.tru_bl, TV.tru_int, TV.tru_str, TV.tru_lst, TV.tru_tup, TV.add_int, TV.add_str, TV.add_lst, TV.add_tup, TV.mul_int, TV.mul_str, TV.ix_str, TV.ix_lst, TV.ix_tup, TV.count_str, TV.eq_str, TV.ne_str, TV.eq_int, TV.ne_int, TV.eq_lst, TV.ne_lst, TV.sgx, TV.vw_non, TV.vw_bl, TV.vw_int, TV.vw_str, TV.vw_tup, TV.vw_lst, TV.vw_fro, TV.vw_dct, TV.key_str, TV.key_int, false_or, or_false, List.length_nil, TV.ty_non, TV.ty_bl, TV.ty_int, TV.ty_str, TV.ty_tup, TV.ty_lst, TV.ty_dct, TV.tn_str, TV.tn_int, TV.tn_bool, TV.tn_list, TV.tn_tuple, TV.tn_dict, TV.isT, String.reduceBEq, Bool.and_false, Bool.or_false, Bool.false_and, Bool.and_true, Bool.true_or, Bool.or_true, and_assoc, TV.D.ty.injEq, reduceCtorEq, exists_const, exists_and_left, exists_and_right, if_true, if_false, Bool.not_true, Bool.not_false, Bool.false_eq_true, reduceIte]
  have hl : (pairsN 0 (signs z)).length = z.length := by rw [pairsN_len, signs_len]
  refine ⟨by omega, fun i acc M' => M' = M ∧ acc = (fmD (fun (i : Nat) => sg z (i : Int)) (fun (i : Nat) => D.int ((i : Int) + 1)) (List.range i)), ⟨rfl, rfl⟩, fun i d acc M' hi ⟨hM, ha⟩ => ?_, fun acc M' ⟨hM, ha⟩ => ?_⟩
  · have hil : i < z.length := by
      have := (List.getElem?_eq_some_iff.mp hi).1
      omega
    have hz : z.cps.toList[i]? = some (z.cps.toList[i]'(by rw [str_len]; exact hil)) := List.getElem?_eq_getElem _
    generalize z.cps.toList[i]'(by rw [str_len]; exact hil) = c at hz
    have hs : (TV.signs z)[i]? = some (D.str ⟨#[c]⟩) := by
      unfold TV.signs; rw [List.getElem?_map, hz]; rfl
    have hp := pairsN_get 0 _ i _ hs
    rw [hi] at hp
    have hd := Option.some.inj hp
    refine ⟨_, hd, rfl, _, _, rfl, _, _, rfl, rfl, ?_⟩
    subst hM ha
    rw [Nat.zero_add]
    simp only [TV.wSeq, TV.wIf, TV.wOr, TV.wNot, TV.wAnd, TV.wAndV, TV.wOrV, TV.wNotV, TV.wIfE, TV.wTru, TV.wCB, TV.wCons, TV.wVar, TV.wC, TV.wNil, TV.wTest, TV.wChain, TV.wRet, TV.wRetN, TV.wNext, TV.wSet, TV.wDrop, TV.wFrz, TV.wMut, TV.wDisp, TV.wTup, TV.wOp, TV.wCall, TV.wDget, TV.wDput, TV.wFor, TV.wLc, TV.wiL, TV.wiT, TV.wiS, TV.wiR1, TV.wiR2, TV.wiEnumS, TV.wiEnum, TV.wgName, TV.wgTup, TV.wgCons, TV.wgNil, TV.wPar, TV.wPar3, TV.wAsg, TV.wUn, TV.wBM, TV.wApp, TV.wSetI, TV.wListC, TV.wSlL, TV.wSlS, TV.wSlT, TV.wNo, TV.wPart, TV.wYes, TV.wRev, TV.wMelt, TV.wNever, TV.wipe0, TV.wDictM, TV.wDictF, TV.wDict0F, TV.wPairs, List.getElem?_cons_zero, List.getElem?_cons_succ, List.set_cons_zero, List.set_cons_succ, Option.some.injEq, exists_eq_left', exists_eq_left, List.cons.injEq, and_true, true_and, TV.D.str.injEq, TV.D.int.injEq, TV.D.bl.injEq, TV.D.lst.injEq, TV.D.tup.injEq, TV.D.obj.injEq, List.map_cons, List.map_nil, TV.cmpD, TV.subD, TV.intD, TV.inSD, TV.ninSD, TV.isND, TV.notND, TV.isBD, TV.divmodC, TV.absC, isiC', TV.len_str, TV.len_lst, TV.len_tup, TV.tru_bl, TV.tru_int, TV.tru_str, TV.tru_lst, TV.tru_tup, TV.add_int, TV.add_str, TV.add_lst, TV.add_tup, TV.mul_int, TV.mul_str, TV.ix_str, TV.ix_lst, TV.ix_tup, TV.count_str, TV.eq_str, TV.ne_str, TV.eq_int, TV.ne_int, TV.eq_lst, TV.ne_lst, TV.sgx, TV.vw_non, TV.vw_bl, TV.vw_int, TV.vw_str, TV.vw_tup, TV.vw_lst, TV.vw_fro, TV.vw_dct, TV.key_str, TV.key_int, false_or, or_false, List.length_nil, TV.ty_non, TV.ty_bl, TV.ty_int, TV.ty_str, TV.ty_tup, TV.ty_lst, TV.ty_dct, TV.tn_str, TV.tn_int, TV.tn_bool, TV.tn_list, TV.tn_tuple, TV.tn_dict, TV.isT, String.reduceBEq, Bool.and_false, Bool.or_false, Bool.false_and, Bool.and_true, Bool.true_or, Bool.or_true, and_assoc, TV.D.ty.injEq, reduceCtorEq, exists_const, exists_and_left, exists_and_right, if_true, if_false, Bool.not_true, Bool.not_false, Bool.false_eq_true, reduceIte]
    rw [fm_range, sg_at hz]
    by_cases e : c = 120
    · subst e; rfl
    · rw [decide_eq_false e]
      simp only [Bool.false_eq_true, if_false, List.append_nil]
  · rw [hl] at ha
    subst hM
    have hac : acc = (bts z).map D.int := by rw [ha]; unfold fmD bts; rw [List.map_map]; rfl
    clear ha
    subst hac
    rw [List.length_map]
    have dl := div_lt (m := (bts z).length) h3 h4 (by omega)
    have hb : (bts z).length ≤ z.length := by
      unfold bts; rw [List.length_map]; exact Nat.le_trans (List.length_filter_le _ _) (by simp)
    obtain ⟨c, e1, e2⟩ := atI_in (l := (bts z).map D.int) (i := n % (bts z).length) (Int.emod_nonneg _ (by omega)) (by rw [List.length_map]; exact Int.emod_lt_of_pos _ (by omega))
    refine ⟨⟨by omega, by omega⟩, rfl, by omega, mulW dl.1 dl.2 (by omega) (Int.lt_of_le_of_lt (b := 1000) (by omega) (by decide +kernel)), c, e2, ?_⟩
    rw [List.getElem?_map] at e1
    unfold beatI at hk
    cases e3 : (bts z)[(n % (bts z).length).toNat]? with
    | none => rw [e3] at e1; cases e1
    | some b =>
      rw [e3] at e1 hk
      cases e1
      exact hk
end
end K01

set_option Elab.async false
set_option linter.all false
set_option maxRecDepth 100000
set_option maxHeartbeats 2000000
namespace K01
open PySem PySem.Spec PyProof.Rows L2 TV
section
variable {P : Program} {w : World} {K : PySem.W.Frag} {mg : Str → Option Value} {base : Heap}
/-! ### the pen -/
abbrev kC : Key := .inr "cells"
abbrev kA : Key := .inr "at"
abbrev kL : Key := .inr "left"
def pd (cs : List Int) (a l : Int) : List (Key × D) := [(kC, .lst (cs.map D.int)), (kA, .int a), (kL, .int l)]
theorem kCA : ¬ (kC = kA) := by decide +kernel
theorem kCL : ¬ (kC = kL) := by decide +kernel
theorem kAC : ¬ (kA = kC) := by decide +kernel
theorem kAL : ¬ (kA = kL) := by decide +kernel
theorem kLC : ¬ (kL = kC) := by decide +kernel
theorem kLA : ¬ (kL = kA) := by decide +kernel
theorem dict_pd {cs a l} : dictOf [(kC, .lst (cs.map D.int)), (kA, .int a), (kL, .int l)] = pd cs a l := by
  simp only [dictOf, pd, putD, List.foldl_cons, List.foldl_nil, List.any_nil, List.any_cons, List.nil_append, kCA, kCL, kAC, kAL, kLC, kLA, decide_false, Bool.or_false, Bool.false_eq_true, if_false, List.cons_append]
theorem pd_len {cs : List Int} {a l : Int} : (pd cs a l).length < 100000 := by show 3 < 100000; decide
theorem val_c {cs a l} : valD (pd cs a l) kC = some (.lst (cs.map D.int)) := by simp [valD, pd, List.find?]
theorem val_a {cs a l} : valD (pd cs a l) kA = some (.int a) := by simp only [valD, pd, List.find?, kCA, decide_false, decide_true]; rfl
theorem val_l {cs a l} : valD (pd cs a l) kL = some (.int l) := by simp only [valD, pd, List.find?, kCL, kAL, decide_false, decide_true]; rfl
theorem put_a {cs a l b} : putD (pd cs a l) kA (.int b) = pd cs b l := by simp only [putD, pd, List.any_cons, List.any_nil, kCA, kLA, decide_false, decide_true, Bool.false_or, Bool.true_or, if_true, List.map_cons, List.map_nil, if_false]
theorem put_l {cs a l b} : putD (pd cs a l) kL (.int b) = pd cs a b := by simp only [putD, pd, List.any_cons, List.any_nil, kCL, kAL, decide_false, decide_true, Bool.false_or, Bool.true_or, if_true, List.map_cons, List.map_nil, if_false]
theorem updM_updM {M : MS} {p : Addr} {m n : MO} : updM (updM M p m) p n = updM M p n := by
  funext b; unfold updM; split <;> rfl
theorem updM_at {M : MS} {p : Addr} {m : MO} : updM M p m p = some m := by simp [updM]
theorem updM_self {M : MS} {p : Addr} {m : MO} (h : M p = some m) : updM M p m = M := by
  funext b; unfold updM; split
  · rename_i e; rw [e, h]
  · rfl
section
variable {M : MS} {p : Addr} {cs : List Int} {a l : Int} (h : M p = some (.dct (pd cs a l)))
include h
theorem get_c {q} : dgetD M (.obj p) (.str "cells") q ↔ q (.lst (cs.map D.int)) :=
  ⟨fun ⟨es, k, c, e1, e2, e3, hq⟩ => by rw [vw_obj_dct h] at e1; cases e1; cases e2; rw [val_c] at e3; cases e3; exact hq, fun hq => ⟨_, _, _, vw_obj_dct h, rfl, val_c, hq⟩⟩
theorem get_a {q} : dgetD M (.obj p) (.str "at") q ↔ q (.int a) :=
  ⟨fun ⟨es, k, c, e1, e2, e3, hq⟩ => by rw [vw_obj_dct h] at e1; cases e1; cases e2; rw [val_a] at e3; cases e3; exact hq, fun hq => ⟨_, _, _, vw_obj_dct h, rfl, val_a, hq⟩⟩
theorem get_l {q} : dgetD M (.obj p) (.str "left") q ↔ q (.int l) :=
  ⟨fun ⟨es, k, c, e1, e2, e3, hq⟩ => by rw [vw_obj_dct h] at e1; cases e1; cases e2; rw [val_l] at e3; cases e3; exact hq, fun hq => ⟨_, _, _, vw_obj_dct h, rfl, val_l, hq⟩⟩
end
def penD (n : Nat) (es : List (Key × D)) : Prop := ∃ (cs : List Int) (a l : Int), es = pd cs a l ∧ cs.length ≤ 63 ∧ 0 ≤ a ∧ a ≤ (n : Int) ∧ 0 ≤ l
theorem penD.up {n m : Nat} {es} (h : penD n es) (hm : n ≤ m) : penD m es := by
  obtain ⟨cs, a, l, e, h1, h2, h3, h4⟩ := h
  exact ⟨cs, a, l, e, h1, h2, by omega, h4⟩
def sp__law_pen : DSp := fun ds M _ k => ds.length = 1 ∧ ∃ cs : List Int, ds = [.fro (cs.map D.int)] ∧ ∀ p es, M p = none → penD 0 es → k (.obj p) (updM M p (.dct es))
theorem ok__law_pen (T : Tx K mg) : FnG P w K mg base CX0 1 T.f__law_pen T.e__law_pen ["_law_script"] (rSp K sp__law_pen) := by
  refine fnT T.d__law_pen.fn sc__law_pen (fun ds M x k h => h.1) (by decide) (fun cdv A outer s H E rm => ?_) (fun ds M x k h => h)
  refine ⟨_, (yss_one (ys_ret (xe_dictM (xps_cons (xl_frz (xl_list (by rfl) T.m_list (xa_cons (xl_frz (xl_slice (xv 0) xo_none (xo_some xint))) xa_nil))) (xps_cons xint (xps_cons xint xps_nil))) rfl rfl (by simp) (by decide) (by decide)))), ?_⟩
  intro ds M k h
  obtain ⟨-, cs, rfl, hk⟩ := h
  rw [show start0 ["_law_script"] [D.fro (cs.map D.int)] = [some (.fro (cs.map D.int))] from rfl]
  simp only [TV.wSeq, TV.wIf, TV.wOr, TV.wNot, TV.wAnd, TV.wAndV, TV.wOrV, TV.wNotV, TV.wIfE, TV.wTru, TV.wCB, TV.wCons, TV.wVar, TV.wC, TV.wNil, TV.wTest, TV.wChain, TV.wRet, TV.wRetN, TV.wNext, TV.wSet, TV.wDrop, TV.wFrz, TV.wMut, TV.wDisp, TV.wTup, TV.wOp, TV.wCall, TV.wDget, TV.wDput, TV.wFor, TV.wLc, TV.wiL, TV.wiT, TV.wiS, TV.wiR1, TV.wiR2, TV.wiEnumS, TV.wiEnum, TV.wgName, TV.wgTup, TV.wgCons, TV.wgNil, TV.wPar, TV.wPar3, TV.wAsg, TV.wUn, TV.wBM, TV.wApp, TV.wSetI, TV.wListC, TV.wSlL, TV.wSlS, TV.wSlT, TV.wNo, TV.wPart, TV.wYes, TV.wRev, TV.wMelt, TV.wNever, TV.wipe0, TV.wDictM, TV.wDictF, TV.wDict0F, TV.wPairs, List.getElem?_cons_zero, List.getElem?_cons_succ, List.set_cons_zero, List.set_cons_succ, Option.some.injEq, exists_eq_left', exists_eq_left, List.cons.injEq, and_true, true_and, TV.D.str.injEq, TV.D.int.injEq, TV.D.bl.injEq, TV.D.lst.injEq, TV.D.tup.injEq, TV.D.obj.injEq, List.map_cons, List.map_nil, TV.cmpD, TV.subD, TV.intD, TV.inSD, TV.ninSD, TV.isND, TV.notND, TV.isBD, TV.divmodC, TV.absC, isiC', TV.len_str, TV.len_lst, TV.len_tup, TV.tru_bl, TV.tru_int, TV.tru_str, TV.tru_lst, TV.tru_tup, TV.add_int, TV.add_str, TV.add_lst, TV.add_tup, TV.mul_int, TV.mul_str, TV.ix_str, TV.ix_lst, TV.ix_tup, TV.count_str, TV.eq_str, TV.ne_str, TV.eq_int, TV.ne_int, TV.eq_lst, TV.ne_lst, TV.sgx, TV.vw_non, TV.vw_bl, TV.vw_int, TV.vw_str, TV.vw_tup, TV.vw_lst, TV.vw_fro, TV.vw_dct, TV.key_str, TV.key_int, false_or, or_false, List.length_nil, TV.ty_non, TV.ty_bl, TV.ty_int, TV.ty_str, TV.ty_tup, TV.ty_lst, TV.ty_dct, TV.tn_str, TV.tn_int, TV.tn_bool, TV.tn_list, TV.tn_tuple, TV.tn_dict, TV.isT, String.reduceBEq, Bool.and_false, Bool.or_false, Bool.false_and, Bool.and_true, Bool.true_or, Bool.or_true, and_assoc, TV.D.ty.injEq, reduceCtorEq, exists_const, exists_and_left, exists_and_right, if_true, if_false, Bool.not_true, Bool.not_false, Bool.false_eq_true, reduceIte]
  refine ⟨_, rfl, ?_⟩
  intro p hp
  have e : TV.cutD (cs.map D.int) none (some 63) = (cs.take 63).map D.int := by
    simp [TV.cutD, HT.sIx, List.map_take]
  rw [e, show dictOf _ = pd (cs.take 63) 0 0 from dict_pd]
  exact hk p _ hp ⟨_, 0, 0, rfl, by rw [List.length_take]; omega, by omega, by omega, by omega⟩
theorem ints_py : ∀ cs : List Int, toPys (cs.map D.int) = some (cs.map PyData.int)
  | [] => rfl
  | c :: cs => by simp [toPys, toPy, ints_py cs]
theorem ints_lay : ∀ cs : List Int, SeqAt.shaped (PyData.list (cs.map PyData.int)) = true := by
  intro cs
  have h1 : ∀ cs : List Int, PyData.canLayAll0 (cs.map PyData.int) = true := fun cs => by
    induction cs with
    | nil => rfl
    | cons c cs ih => simp [PyData.canLayAll0, PyData.canLay0, ih]
  have h2 : ∀ cs : List Int, PyData.depthAll (cs.map PyData.int) = 0 := fun cs => by
    induction cs with
    | nil => rfl
    | cons c cs ih => simp [PyData.depthAll, PyData.depth, ih]
  simp [SeqAt.shaped, PyData.canLay0, PyData.depth, h1, h2]
theorem eqv_nil (cs : List Int) : PyData.eqv (.list (cs.map PyData.int)) (.list []) = cs.isEmpty := by
  cases cs <;> simp [PyData.eqv, PyData.eqvAll]
theorem ne_nil {M : MS} {cs : List Int} {q} (hq : q (.bl (!cs.isEmpty))) : neD M (.lst (cs.map D.int)) (.lst []) q :=
  ⟨_, _, by show toPy (.lst _) = _; simp [toPy, ints_py], rfl, ints_lay cs, ints_lay [], by
    show q (.bl (!PyData.eqv (.list (cs.map PyData.int)) (.list []))); rw [eqv_nil]; exact hq⟩
theorem big_lt : (1000000000000000000000000 : Int) < 2 ^ 1000 := by decide +kernel
def sp__law_draw : DSp := fun ds M _ k => ds.length = 2 ∧ ∃ p m n es, ds = [.obj p, .int m] ∧ M p = some (.dct es) ∧ penD n es ∧ n < 1000000 ∧ 1 ≤ m ∧ m < 2 ^ 1000 ∧ ∀ r es', 0 ≤ r → r < m → penD (n + 1) es' → k (.int r) (updM M p (.dct es'))
theorem ok__law_draw (T : Tx K mg) : FnG P w K mg base CX0 1 T.f__law_draw T.e__law_draw ["_law_pen_here", "_law_many"] (rSp K sp__law_draw) := by
  refine fnT T.d__law_draw.fn sc__law_draw (fun ds M x k h => h.1) (by decide) (fun cdv A outer s H E rm => ?_) (fun ds M x k h => h)
  refine ⟨_, (yss_cons (ys_if (xt_cmp op_gt l_cmpD (xe_dget rm.u1 (xv 0) xstr (fun _ _ => rfl)) xint (nomark _)) (yss_cons (ys_set (i := 2) sc__law_draw.nd rfl (by first | exact Or.inl rfl | exact Or.inr rfl) (xe_op op_mod l_intD (xe_dget rm.u1 (xv 0) xstr (fun _ _ => rfl)) (xv 1)))
      (yss_cons (ys_dput rm.u1 (xv 0) xstr (xe_op op_fdivW l_intD (xe_dget rm.u1 (xv 0) xstr (fun _ _ => rfl)) (xv 1)))
      (yss_one (ys_ret (xv 2))))) yss_nil)
      (yss_cons (ys_set (i := 3) sc__law_draw.nd rfl (by first | exact Or.inl rfl | exact Or.inr rfl) (xe_dget rm.u1 (xv 0) xstr (fun _ _ => rfl)))
      (yss_cons (ys_dput rm.u1 (xv 0) xstr (xe_op op_addD l_addD (xv 3) xint))
      (yss_cons (ys_set (i := 4) sc__law_draw.nd rfl (by first | exact Or.inl rfl | exact Or.inr rfl) (xe_op op_addD l_addD (xe_op op_mulD l_mulD xint (xv 3)) xint))
      (yss_cons (ys_if (xt_cmp (op_neE rm.u64) l_neE (xe_dget rm.u1 (xv 0) xstr (fun _ _ => rfl)) (xl_frz (xl_lst xa_nil)) (nomark _)) (yss_one (ys_set (i := 4) sc__law_draw.nd rfl (by first | exact Or.inl rfl | exact Or.inr rfl) (xe_ix (xe_dget rm.u1 (xv 0) xstr (fun _ _ => rfl)) (xe_op op_mod l_intD (xv 3) (xe_callB call_lenD' l_lenC (by rfl) T.m_len (by decide +kernel) (xa_cons (xe_dget rm.u1 (xv 0) xstr (fun _ _ => rfl)) xa_nil))) (fun _ _ => rfl)))) yss_nil)
      (yss_cons (ys_if (PW.pt (xw_and (xt_cmp op_lt l_cmpD (xv 3) (xe_callB call_lenD' l_lenC (by rfl) T.m_len (by decide +kernel) (xa_cons (xe_dget rm.u1 (xv 0) xstr (fun _ _ => rfl)) xa_nil)) (nomark _)) (xw_and1 (xt_cmp op_ge l_cmpD (xe_callB call_abs l_absC (by rfl) T.m_abs (by decide +kernel) (xa_cons (xv 4) xa_nil)) (xe_op op_pow l_intD xint xint) (nomark _))))) (yss_cons (ys_dput rm.u1 (xv 0) xstr (xe_op op_fdivW l_intD (xe_op op_sub l_subD (xe_callB call_abs l_absC (by rfl) T.m_abs (by decide +kernel) (xa_cons (xv 4) xa_nil)) (xe_op op_pow l_intD xint xint)) (xv 1)))
      (yss_one (ys_ret (xe_op op_mod l_intD (xe_op op_sub l_subD (xe_callB call_abs l_absC (by rfl) T.m_abs (by decide +kernel) (xa_cons (xv 4) xa_nil)) (xe_op op_pow l_intD xint xint)) (xv 1))))) yss_nil)
      (yss_cons (ys_set (i := 5) sc__law_draw.nd rfl (by first | exact Or.inl rfl | exact Or.inr rfl) (xe_op op_mod l_intD (xe_op op_addD l_addD (xe_op op_addD l_addD (xe_op op_addD l_addD (xe_op op_mulD l_mulD (xe_op op_mod l_intD (xv 4) xint) xint) (xe_op op_mulD l_mulD (xe_op op_mulD l_mulD xint (xv 3)) (xv 3))) (xe_op op_mulD l_mulD xint (xv 3))) xint) xint))
      (yss_cons (ys_set (i := 5) sc__law_draw.nd rfl (by first | exact Or.inl rfl | exact Or.inr rfl) (xe_op op_mod l_intD (xe_op op_addD l_addD (xe_op op_addD l_addD (xe_op op_addD l_addD (xe_op op_mulD l_mulD (xv 5) (xv 5)) (xe_op op_mulD l_mulD xint (xv 5))) (xe_op op_mulD l_mulD xint (xv 3))) xint) xint))
      (yss_one (ys_ret (xe_op op_mod l_intD (xe_op op_fdivW l_intD (xe_op op_mod l_intD (xe_op op_mulD l_mulD (xv 5) (xe_op op_addD l_addD (xv 5) xint)) xint) xint) (xv 1)))))))))))), ?_⟩
  intro ds M k h
  obtain ⟨-, p, m, n, es, rfl, hM, ⟨cs, a, l, rfl, hc, h0, hn, hl⟩, hn6, hm1, hm2, hk⟩ := h
  rw [show start0 ["_law_pen_here", "_law_many", "_law_digit", "_law_at", "_law_cell", "_law_blend"] [D.obj p, D.int m] = [some (.obj p), some (.int m), none, none, none, none] from rfl]
  simp only [TV.wSeq, TV.wIf, TV.wOr, TV.wNot, TV.wAnd, TV.wAndV, TV.wOrV, TV.wNotV, TV.wIfE, TV.wTru, TV.wCB, TV.wCons, TV.wVar, TV.wC, TV.wNil, TV.wTest, TV.wChain, TV.wRet, TV.wRetN, TV.wNext, TV.wSet, TV.wDrop, TV.wFrz, TV.wMut, TV.wDisp, TV.wTup, TV.wOp, TV.wCall, TV.wDget, TV.wDput, TV.wFor, TV.wLc, TV.wiL, TV.wiT, TV.wiS, TV.wiR1, TV.wiR2, TV.wiEnumS, TV.wiEnum, TV.wgName, TV.wgTup, TV.wgCons, TV.wgNil, TV.wPar, TV.wPar3, TV.wAsg, TV.wUn, TV.wBM, TV.wApp, TV.wSetI, TV.wListC, TV.wSlL, TV.wSlS, TV.wSlT, TV.wNo, TV.wPart, TV.wYes, TV.wRev, TV.wMelt, TV.wNever, TV.wipe0, TV.wDictM, TV.wDictF, TV.wDict0F, TV.wPairs, List.getElem?_cons_zero, List.getElem?_cons_succ, List.set_cons_zero, List.set_cons_succ, Option.some.injEq, exists_eq_left', exists_eq_left, List.cons.injEq, and_true, true_and, TV.D.str.injEq, TV.D.int.injEq, TV.D.bl.injEq, TV.D.lst.injEq, TV.D.tup.injEq, TV.D.obj.injEq, List.map_cons, List.map_nil, TV.cmpD, TV.subD, TV.intD, TV.inSD, TV.ninSD, TV.isND, TV.notND, TV.isBD, TV.divmodC, TV.absC, isiC', TV.len_str, TV.len_lst, TV.len_tup, TV.tru_bl, TV.tru_int, TV.tru_str, TV.tru_lst, TV.tru_tup, TV.add_int, TV.add_str, TV.add_lst, TV.add_tup, TV.mul_int, TV.mul_str, TV.ix_str, TV.ix_lst, TV.ix_tup, TV.count_str, TV.eq_str, TV.ne_str, TV.eq_int, TV.ne_int, TV.eq_lst, TV.ne_lst, TV.sgx, TV.vw_non, TV.vw_bl, TV.vw_int, TV.vw_str, TV.vw_tup, TV.vw_lst, TV.vw_fro, TV.vw_dct, TV.key_str, TV.key_int, false_or, or_false, List.length_nil, TV.ty_non, TV.ty_bl, TV.ty_int, TV.ty_str, TV.ty_tup, TV.ty_lst, TV.ty_dct, TV.tn_str, TV.tn_int, TV.tn_bool, TV.tn_list, TV.tn_tuple, TV.tn_dict, TV.isT, String.reduceBEq, Bool.and_false, Bool.or_false, Bool.false_and, Bool.and_true, Bool.true_or, Bool.or_true, and_assoc, TV.D.ty.injEq, reduceCtorEq, exists_const, exists_and_left, exists_and_right, if_true, if_false, Bool.not_true, Bool.not_false, Bool.false_eq_true, reduceIte]
  simp only [get_l hM]
  simp only [TV.wSeq, TV.wIf, TV.wOr, TV.wNot, TV.wAnd, TV.wAndV, TV.wOrV, TV.wNotV, TV.wIfE, TV.wTru, TV.wCB, TV.wCons, TV.wVar, TV.wC, TV.wNil, TV.wTest, TV.wChain, TV.wRet, TV.wRetN, TV.wNext, TV.wSet, TV.wDrop, TV.wFrz, TV.wMut, TV.wDisp, TV.wTup, TV.wOp, TV.wCall, TV.wDget, TV.wDput, TV.wFor, TV.wLc, TV.wiL, TV.wiT, TV.wiS, TV.wiR1, TV.wiR2, TV.wiEnumS, TV.wiEnum, TV.wgName, TV.wgTup, TV.wgCons, TV.wgNil, TV.wPar, TV.wPar3, TV.wAsg, TV.wUn, TV.wBM, TV.wApp, TV.wSetI, TV.wListC, TV.wSlL, TV.wSlS, TV.wSlT, TV.wNo, TV.wPart, TV.wYes, TV.wRev, TV.wMelt, TV.wNever, TV.wipe0, TV.wDictM, TV.wDictF, TV.wDict0F, TV.wPairs, List.getElem?_cons_zero, List.getElem?_cons_succ, List.set_cons_zero, List.set_cons_succ, Option.some.injEq, exists_eq_left', exists_eq_left, List.cons.injEq, and_true, true_and, TV.D.str.injEq, TV.D.int.injEq, TV.D.bl.injEq, TV.D.lst.injEq, TV.D.tup.injEq, TV.D.obj.injEq, List.map_cons, List.map_nil, TV.cmpD, TV.subD, TV.intD, TV.inSD, TV.ninSD, TV.isND, TV.notND, TV.isBD, TV.divmodC, TV.absC, isiC', TV.len_str, TV.len_lst, TV.len_tup, TV.tru_bl, TV.tru_int, TV.tru_str, TV.tru_lst, TV.tru_tup, TV.add_int, TV.add_str, TV.add_lst, TV.add_tup, TV.mul_int, TV.mul_str, TV.ix_str, TV.ix_lst, TV.ix_tup, TV.count_str, TV.eq_str, TV.ne_str, TV.eq_int, TV.ne_int, TV.eq_lst, TV.ne_lst, TV.sgx, TV.vw_non, TV.vw_bl, TV.vw_int, TV.vw_str, TV.vw_tup, TV.vw_lst, TV.vw_fro, TV.vw_dct, TV.key_str, TV.key_int, false_or, or_false, List.length_nil, TV.ty_non, TV.ty_bl, TV.ty_int, TV.ty_str, TV.ty_tup, TV.ty_lst, TV.ty_dct, TV.tn_str, TV.tn_int, TV.tn_bool, TV.tn_list, TV.tn_tuple, TV.tn_dict, TV.isT, String.reduceBEq, Bool.and_false, Bool.or_false, Bool.false_and, Bool.and_true, Bool.true_or, Bool.or_true, and_assoc, TV.D.ty.injEq, reduceCtorEq, exists_const, exists_and_left, exists_and_right, if_true, if_false, Bool.not_true, Bool.not_false, Bool.false_eq_true, reduceIte]
  have h18 : (10 : Int) ^ (18 : Nat) = 1000000000000000000 := by decide
  have w1 : ∀ {i j : Int}, 0 ≤ i → i < 2 ^ 1000 → 0 ≤ j → j < 2 ^ 1000 → CMulW i j := mulW
  have dw : CDivW ((l : Int)) m := ⟨by omega, by have := log_of (by omega : 0 ≤ m) hm2 (by decide); omega⟩
  have dv : ∀ i : Int, CDivW i m := fun i => dw
  by_cases hz : 0 < l
  · rw [decide_eq_true hz, if_pos rfl]
    refine ⟨by omega, dw, _, hM, pd_len, ?_⟩
    rw [put_l]
    exact hk _ _ (Int.emod_nonneg _ (by omega)) (Int.emod_lt_of_pos _ (by omega)) ⟨cs, a, l / m, rfl, hc, h0, by omega, Int.ediv_nonneg hl (by omega)⟩
  · rw [decide_eq_false hz, if_neg (by decide)]
    simp only [get_a hM]
    simp only [TV.wSeq, TV.wIf, TV.wOr, TV.wNot, TV.wAnd, TV.wAndV, TV.wOrV, TV.wNotV, TV.wIfE, TV.wTru, TV.wCB, TV.wCons, TV.wVar, TV.wC, TV.wNil, TV.wTest, TV.wChain, TV.wRet, TV.wRetN, TV.wNext, TV.wSet, TV.wDrop, TV.wFrz, TV.wMut, TV.wDisp, TV.wTup, TV.wOp, TV.wCall, TV.wDget, TV.wDput, TV.wFor, TV.wLc, TV.wiL, TV.wiT, TV.wiS, TV.wiR1, TV.wiR2, TV.wiEnumS, TV.wiEnum, TV.wgName, TV.wgTup, TV.wgCons, TV.wgNil, TV.wPar, TV.wPar3, TV.wAsg, TV.wUn, TV.wBM, TV.wApp, TV.wSetI, TV.wListC, TV.wSlL, TV.wSlS, TV.wSlT, TV.wNo, TV.wPart, TV.wYes, TV.wRev, TV.wMelt, TV.wNever, TV.wipe0, TV.wDictM, TV.wDictF, TV.wDict0F, TV.wPairs, List.getElem?_cons_zero, List.getElem?_cons_succ, List.set_cons_zero, List.set_cons_succ, Option.some.injEq, exists_eq_left', exists_eq_left, List.cons.injEq, and_true, true_and, TV.D.str.injEq, TV.D.int.injEq, TV.D.bl.injEq, TV.D.lst.injEq, TV.D.tup.injEq, TV.D.obj.injEq, List.map_cons, List.map_nil, TV.cmpD, TV.subD, TV.intD, TV.inSD, TV.ninSD, TV.isND, TV.notND, TV.isBD, TV.divmodC, TV.absC, isiC', TV.len_str, TV.len_lst, TV.len_tup, TV.tru_bl, TV.tru_int, TV.tru_str, TV.tru_lst, TV.tru_tup, TV.add_int, TV.add_str, TV.add_lst, TV.add_tup, TV.mul_int, TV.mul_str, TV.ix_str, TV.ix_lst, TV.ix_tup, TV.count_str, TV.eq_str, TV.ne_str, TV.eq_int, TV.ne_int, TV.eq_lst, TV.ne_lst, TV.sgx, TV.vw_non, TV.vw_bl, TV.vw_int, TV.vw_str, TV.vw_tup, TV.vw_lst, TV.vw_fro, TV.vw_dct, TV.key_str, TV.key_int, false_or, or_false, List.length_nil, TV.ty_non, TV.ty_bl, TV.ty_int, TV.ty_str, TV.ty_tup, TV.ty_lst, TV.ty_dct, TV.tn_str, TV.tn_int, TV.tn_bool, TV.tn_list, TV.tn_tuple, TV.tn_dict, TV.isT, String.reduceBEq, Bool.and_false, Bool.or_false, Bool.false_and, Bool.and_true, Bool.true_or, Bool.or_true, and_assoc, TV.D.ty.injEq, reduceCtorEq, exists_const, exists_and_left, exists_and_right, if_true, if_false, Bool.not_true, Bool.not_false, Bool.false_eq_true, reduceIte]
    refine ⟨_, hM, pd_len, ?_⟩
    rw [put_a]
    have hM1 : updM M p (.dct (pd cs (a + 1) l)) p = some (.dct (pd cs (a + 1) l)) := updM_at
    generalize hMM : updM M p (.dct (pd cs (a + 1) l)) = M1 at hM1 ⊢
    simp only [get_c hM1, get_a hM1, get_l hM1]
    simp only [TV.wSeq, TV.wIf, TV.wOr, TV.wNot, TV.wAnd, TV.wAndV, TV.wOrV, TV.wNotV, TV.wIfE, TV.wTru, TV.wCB, TV.wCons, TV.wVar, TV.wC, TV.wNil, TV.wTest, TV.wChain, TV.wRet, TV.wRetN, TV.wNext, TV.wSet, TV.wDrop, TV.wFrz, TV.wMut, TV.wDisp, TV.wTup, TV.wOp, TV.wCall, TV.wDget, TV.wDput, TV.wFor, TV.wLc, TV.wiL, TV.wiT, TV.wiS, TV.wiR1, TV.wiR2, TV.wiEnumS, TV.wiEnum, TV.wgName, TV.wgTup, TV.wgCons, TV.wgNil, TV.wPar, TV.wPar3, TV.wAsg, TV.wUn, TV.wBM, TV.wApp, TV.wSetI, TV.wListC, TV.wSlL, TV.wSlS, TV.wSlT, TV.wNo, TV.wPart, TV.wYes, TV.wRev, TV.wMelt, TV.wNever, TV.wipe0, TV.wDictM, TV.wDictF, TV.wDict0F, TV.wPairs, List.getElem?_cons_zero, List.getElem?_cons_succ, List.set_cons_zero, List.set_cons_succ, Option.some.injEq, exists_eq_left', exists_eq_left, List.cons.injEq, and_true, true_and, TV.D.str.injEq, TV.D.int.injEq, TV.D.bl.injEq, TV.D.lst.injEq, TV.D.tup.injEq, TV.D.obj.injEq, List.map_cons, List.map_nil, TV.cmpD, TV.subD, TV.intD, TV.inSD, TV.ninSD, TV.isND, TV.notND, TV.isBD, TV.divmodC, TV.absC, isiC', TV.len_str, TV.len_lst, TV.len_tup, TV.tru_bl, TV.tru_int, TV.tru_str, TV.tru_lst, TV.tru_tup, TV.add_int, TV.add_str, TV.add_lst, TV.add_tup, TV.mul_int, TV.mul_str, TV.ix_str, TV.ix_lst, TV.ix_tup, TV.count_str, TV.eq_str, TV.ne_str, TV.eq_int, TV.ne_int, TV.eq_lst, TV.ne_lst, TV.sgx, TV.vw_non, TV.vw_bl, TV.vw_int, TV.vw_str, TV.vw_tup, TV.vw_lst, TV.vw_fro, TV.vw_dct, TV.key_str, TV.key_int, false_or, or_false, List.length_nil, TV.ty_non, TV.ty_bl, TV.ty_int, TV.ty_str, TV.ty_tup, TV.ty_lst, TV.ty_dct, TV.tn_str, TV.tn_int, TV.tn_bool, TV.tn_list, TV.tn_tuple, TV.tn_dict, TV.isT, String.reduceBEq, Bool.and_false, Bool.or_false, Bool.false_and, Bool.and_true, Bool.true_or, Bool.or_true, and_assoc, TV.D.ty.injEq, reduceCtorEq, exists_const, exists_and_left, exists_and_right, if_true, if_false, Bool.not_true, Bool.not_false, Bool.false_eq_true, reduceIte]
    have fin : ∀ X : Int, k (.int (X % m)) M1 := fun X => hMM ▸ hk _ _ (Int.emod_nonneg _ (by omega)) (Int.emod_lt_of_pos _ (by omega)) ⟨cs, a + 1, l, rfl, hc, by omega, by omega, hl⟩
    have ms : ∀ {i j : Int}, 0 ≤ i → i < 1000000000000000000000000 → 0 ≤ j → j < 1000000000000000000000000 → CMulW i j := fun h1 h2 h3 h4 =>
      mulW h1 (Int.lt_trans h2 big_lt) h3 (Int.lt_trans h4 big_lt)
    have mb : ∀ {i b : Int}, 0 < b → 0 ≤ i % b ∧ i % b < b := fun hb => ⟨Int.emod_nonneg _ (by omega), Int.emod_lt_of_pos _ hb⟩
    have c32 : ∀ {i : Int}, CDivW i 32 := ⟨by decide, by decide +kernel⟩
    have c18 : CPow 10 18 := ⟨by decide, by decide, by decide⟩
    have h29 : CMulW 29 a := ms (by omega) (by omega) (by omega) (by omega)
    refine ⟨h29, by omega, ne_nil ?_⟩
    simp only [TV.wSeq, TV.wIf, TV.wOr, TV.wNot, TV.wAnd, TV.wAndV, TV.wOrV, TV.wNotV, TV.wIfE, TV.wTru, TV.wCB, TV.wCons, TV.wVar, TV.wC, TV.wNil, TV.wTest, TV.wChain, TV.wRet, TV.wRetN, TV.wNext, TV.wSet, TV.wDrop, TV.wFrz, TV.wMut, TV.wDisp, TV.wTup, TV.wOp, TV.wCall, TV.wDget, TV.wDput, TV.wFor, TV.wLc, TV.wiL, TV.wiT, TV.wiS, TV.wiR1, TV.wiR2, TV.wiEnumS, TV.wiEnum, TV.wgName, TV.wgTup, TV.wgCons, TV.wgNil, TV.wPar, TV.wPar3, TV.wAsg, TV.wUn, TV.wBM, TV.wApp, TV.wSetI, TV.wListC, TV.wSlL, TV.wSlS, TV.wSlT, TV.wNo, TV.wPart, TV.wYes, TV.wRev, TV.wMelt, TV.wNever, TV.wipe0, TV.wDictM, TV.wDictF, TV.wDict0F, TV.wPairs, List.getElem?_cons_zero, List.getElem?_cons_succ, List.set_cons_zero, List.set_cons_succ, Option.some.injEq, exists_eq_left', exists_eq_left, List.cons.injEq, and_true, true_and, TV.D.str.injEq, TV.D.int.injEq, TV.D.bl.injEq, TV.D.lst.injEq, TV.D.tup.injEq, TV.D.obj.injEq, List.map_cons, List.map_nil, TV.cmpD, TV.subD, TV.intD, TV.inSD, TV.ninSD, TV.isND, TV.notND, TV.isBD, TV.divmodC, TV.absC, isiC', TV.len_str, TV.len_lst, TV.len_tup, TV.tru_bl, TV.tru_int, TV.tru_str, TV.tru_lst, TV.tru_tup, TV.add_int, TV.add_str, TV.add_lst, TV.add_tup, TV.mul_int, TV.mul_str, TV.ix_str, TV.ix_lst, TV.ix_tup, TV.count_str, TV.eq_str, TV.ne_str, TV.eq_int, TV.ne_int, TV.eq_lst, TV.ne_lst, TV.sgx, TV.vw_non, TV.vw_bl, TV.vw_int, TV.vw_str, TV.vw_tup, TV.vw_lst, TV.vw_fro, TV.vw_dct, TV.key_str, TV.key_int, false_or, or_false, List.length_nil, TV.ty_non, TV.ty_bl, TV.ty_int, TV.ty_str, TV.ty_tup, TV.ty_lst, TV.ty_dct, TV.tn_str, TV.tn_int, TV.tn_bool, TV.tn_list, TV.tn_tuple, TV.tn_dict, TV.isT, String.reduceBEq, Bool.and_false, Bool.or_false, Bool.false_and, Bool.and_true, Bool.true_or, Bool.or_true, and_assoc, TV.D.ty.injEq, reduceCtorEq, exists_const, exists_and_left, exists_and_right, if_true, if_false, Bool.not_true, Bool.not_false, Bool.false_eq_true, reduceIte]
    by_cases hcs : cs = []
    · subst hcs
      simp only [List.isEmpty_nil, Bool.not_true, Bool.false_eq_true, if_false, List.map_nil, List.length_nil]
      rw [if_neg (by rw [decide_eq_false (by omega)]; decide)]
      ((repeat' apply And.intro) <;> first | exact fin _ | decide +kernel | omega | exact ms (by omega) (by omega) (by omega) (by omega))
    · have hE : cs.isEmpty = false := by cases cs <;> simp_all
      have hpos : 0 < cs.length := List.length_pos_iff.mpr hcs
      rw [hE]
      simp only [TV.wSeq, TV.wIf, TV.wOr, TV.wNot, TV.wAnd, TV.wAndV, TV.wOrV, TV.wNotV, TV.wIfE, TV.wTru, TV.wCB, TV.wCons, TV.wVar, TV.wC, TV.wNil, TV.wTest, TV.wChain, TV.wRet, TV.wRetN, TV.wNext, TV.wSet, TV.wDrop, TV.wFrz, TV.wMut, TV.wDisp, TV.wTup, TV.wOp, TV.wCall, TV.wDget, TV.wDput, TV.wFor, TV.wLc, TV.wiL, TV.wiT, TV.wiS, TV.wiR1, TV.wiR2, TV.wiEnumS, TV.wiEnum, TV.wgName, TV.wgTup, TV.wgCons, TV.wgNil, TV.wPar, TV.wPar3, TV.wAsg, TV.wUn, TV.wBM, TV.wApp, TV.wSetI, TV.wListC, TV.wSlL, TV.wSlS, TV.wSlT, TV.wNo, TV.wPart, TV.wYes, TV.wRev, TV.wMelt, TV.wNever, TV.wipe0, TV.wDictM, TV.wDictF, TV.wDict0F, TV.wPairs, List.getElem?_cons_zero, List.getElem?_cons_succ, List.set_cons_zero, List.set_cons_succ, Option.some.injEq, exists_eq_left', exists_eq_left, List.cons.injEq, and_true, true_and, TV.D.str.injEq, TV.D.int.injEq, TV.D.bl.injEq, TV.D.lst.injEq, TV.D.tup.injEq, TV.D.obj.injEq, List.map_cons, List.map_nil, TV.cmpD, TV.subD, TV.intD, TV.inSD, TV.ninSD, TV.isND, TV.notND, TV.isBD, TV.divmodC, TV.absC, isiC', TV.len_str, TV.len_lst, TV.len_tup, TV.tru_bl, TV.tru_int, TV.tru_str, TV.tru_lst, TV.tru_tup, TV.add_int, TV.add_str, TV.add_lst, TV.add_tup, TV.mul_int, TV.mul_str, TV.ix_str, TV.ix_lst, TV.ix_tup, TV.count_str, TV.eq_str, TV.ne_str, TV.eq_int, TV.ne_int, TV.eq_lst, TV.ne_lst, TV.sgx, TV.vw_non, TV.vw_bl, TV.vw_int, TV.vw_str, TV.vw_tup, TV.vw_lst, TV.vw_fro, TV.vw_dct, TV.key_str, TV.key_int, false_or, or_false, List.length_nil, TV.ty_non, TV.ty_bl, TV.ty_int, TV.ty_str, TV.ty_tup, TV.ty_lst, TV.ty_dct, TV.tn_str, TV.tn_int, TV.tn_bool, TV.tn_list, TV.tn_tuple, TV.tn_dict, TV.isT, String.reduceBEq, Bool.and_false, Bool.or_false, Bool.false_and, Bool.and_true, Bool.true_or, Bool.or_true, and_assoc, TV.D.ty.injEq, reduceCtorEq, exists_const, exists_and_left, exists_and_right, if_true, if_false, Bool.not_true, Bool.not_false, Bool.false_eq_true, reduceIte]
      obtain ⟨c, e1, e2⟩ := atI_in (l := cs.map D.int) (i := a % (cs.map D.int).length) (Int.emod_nonneg _ (by rw [List.length_map]; omega)) (Int.emod_lt_of_pos _ (by rw [List.length_map]; omega))
      have ⟨v, hv⟩ : ∃ v, c = D.int v := by
        rw [List.getElem?_map] at e1
        cases e3 : cs[(a % (cs.map D.int).length).toNat]? with
        | none => rw [e3] at e1; cases e1
        | some v => rw [e3] at e1; exact ⟨v, (Option.some.inj e1).symm⟩
      subst hv
      refine ⟨by rw [List.length_map]; omega, _, e2, ?_⟩
      rw [List.length_map]
      simp only [TV.wSeq, TV.wIf, TV.wOr, TV.wNot, TV.wAnd, TV.wAndV, TV.wOrV, TV.wNotV, TV.wIfE, TV.wTru, TV.wCB, TV.wCons, TV.wVar, TV.wC, TV.wNil, TV.wTest, TV.wChain, TV.wRet, TV.wRetN, TV.wNext, TV.wSet, TV.wDrop, TV.wFrz, TV.wMut, TV.wDisp, TV.wTup, TV.wOp, TV.wCall, TV.wDget, TV.wDput, TV.wFor, TV.wLc, TV.wiL, TV.wiT, TV.wiS, TV.wiR1, TV.wiR2, TV.wiEnumS, TV.wiEnum, TV.wgName, TV.wgTup, TV.wgCons, TV.wgNil, TV.wPar, TV.wPar3, TV.wAsg, TV.wUn, TV.wBM, TV.wApp, TV.wSetI, TV.wListC, TV.wSlL, TV.wSlS, TV.wSlT, TV.wNo, TV.wPart, TV.wYes, TV.wRev, TV.wMelt, TV.wNever, TV.wipe0, TV.wDictM, TV.wDictF, TV.wDict0F, TV.wPairs, List.getElem?_cons_zero, List.getElem?_cons_succ, List.set_cons_zero, List.set_cons_succ, Option.some.injEq, exists_eq_left', exists_eq_left, List.cons.injEq, and_true, true_and, TV.D.str.injEq, TV.D.int.injEq, TV.D.bl.injEq, TV.D.lst.injEq, TV.D.tup.injEq, TV.D.obj.injEq, List.map_cons, List.map_nil, TV.cmpD, TV.subD, TV.intD, TV.inSD, TV.ninSD, TV.isND, TV.notND, TV.isBD, TV.divmodC, TV.absC, isiC', TV.len_str, TV.len_lst, TV.len_tup, TV.tru_bl, TV.tru_int, TV.tru_str, TV.tru_lst, TV.tru_tup, TV.add_int, TV.add_str, TV.add_lst, TV.add_tup, TV.mul_int, TV.mul_str, TV.ix_str, TV.ix_lst, TV.ix_tup, TV.count_str, TV.eq_str, TV.ne_str, TV.eq_int, TV.ne_int, TV.eq_lst, TV.ne_lst, TV.sgx, TV.vw_non, TV.vw_bl, TV.vw_int, TV.vw_str, TV.vw_tup, TV.vw_lst, TV.vw_fro, TV.vw_dct, TV.key_str, TV.key_int, false_or, or_false, List.length_nil, TV.ty_non, TV.ty_bl, TV.ty_int, TV.ty_str, TV.ty_tup, TV.ty_lst, TV.ty_dct, TV.tn_str, TV.tn_int, TV.tn_bool, TV.tn_list, TV.tn_tuple, TV.tn_dict, TV.isT, String.reduceBEq, Bool.and_false, Bool.or_false, Bool.false_and, Bool.and_true, Bool.true_or, Bool.or_true, and_assoc, TV.D.ty.injEq, reduceCtorEq, exists_const, exists_and_left, exists_and_right, if_true, if_false, Bool.not_true, Bool.not_false, Bool.false_eq_true, reduceIte]
      by_cases hin : a < (cs.length : Int)
      · simp only [hin, decide_true, if_true]
        refine ⟨c18, ?_⟩
        by_cases hbig : (10 : Int) ^ Int.toNat 18 ≤ if v < 0 then -v else v
        · simp only [hbig, decide_true, if_true]
          refine ⟨c18, dv _, _, hM1, pd_len, c18, by omega, ?_⟩
          rw [put_l, ← hMM, updM_updM]
          exact hk _ _ (Int.emod_nonneg _ (by omega)) (Int.emod_lt_of_pos _ (by omega)) ⟨cs, a + 1, _, rfl, hc, by omega, by omega, Int.ediv_nonneg (by omega) (by omega)⟩
        · simp only [hbig, decide_false, Bool.false_eq_true, if_false]
          ((repeat' apply And.intro) <;> first | exact fin _ | decide +kernel | omega | exact ms (by omega) (by omega) (by omega) (by omega))
      · simp only [hin, decide_false, Bool.false_eq_true, if_false]
        ((repeat' apply And.intro) <;> first | exact fin _ | decide +kernel | omega | exact ms (by omega) (by omega) (by omega) (by omega))

/-! what is picked -/
def itemsD : D → Option (List D)
  | .lst xs => some xs
  | .tup xs => some xs
  | .str z => if z.length ≤ 100000 then some (TV.signs z) else none
  | _ => none
theorem items_len {M : MS} {c : D} {xs : List D} (h : itemsD c = some xs) {q} (hq : q (.int xs.length)) : lenC M [c] q := by
  cases c <;> simp only [itemsD, reduceCtorEq] at h
  · split at h
    · cases h; rw [signs_len] at hq; rename_i hz; exact ⟨_, rfl, hz, hq⟩
    · cases h
  · cases h; exact ⟨_, rfl, hq⟩
  · cases h; exact ⟨_, rfl, hq⟩
theorem items_ix {M : MS} {c : D} {xs : List D} (h : itemsD c = some xs) {i : Int} (h0 : 0 ≤ i) (h1 : i < xs.length) {q} (hq : ∀ d ∈ xs, q d) : ixD M c (.int i) q := by
  cases c <;> simp only [itemsD, reduceCtorEq] at h
  · split at h
    · cases h; rename_i z hz
      rw [signs_len] at h1
      obtain ⟨c, e1, e2⟩ := atI_in (l := z.cps.toList) h0 (by rw [str_len]; exact h1)
      refine ⟨i, rfl, hz, c, e2, hq _ ?_⟩
      unfold TV.signs
      exact List.mem_map_of_mem (List.mem_of_getElem? e1)
    · cases h
  · cases h
    obtain ⟨c, e1, e2⟩ := atI_in h0 h1
    exact ⟨i, rfl, c, e2, hq c (List.mem_of_getElem? e1)⟩
  · cases h
    obtain ⟨c, e1, e2⟩ := atI_in h0 h1
    exact ⟨i, rfl, c, e2, hq c (List.mem_of_getElem? e1)⟩
def sp__law_pick : DSp := fun ds M _ k => ds.length = 2 ∧ ∃ p c xs n es, ds = [.obj p, c] ∧ itemsD c = some xs ∧ 1 ≤ xs.length ∧ xs.length ≤ 100000 ∧ M p = some (.dct es) ∧ penD n es ∧ n < 1000000 ∧ ∀ d es', d ∈ xs → penD (n + 1) es' → k d (updM M p (.dct es'))
theorem ok__law_pick (T : Tx K mg) : FnG P w K mg base CX0 2 T.f__law_pick T.e__law_pick ["_law_pen_here", "_law_some"] (rSp K sp__law_pick) := by
  refine fnT T.d__law_pick.fn sc__law_pick (fun ds M x k h => h.1) (by decide) (fun cdv A outer s H E rm => ?_) (fun ds M x k h => h)
  refine ⟨_, (yss_one (ys_ret (xe_ix (xv 1) (xcall (ok__law_draw T) (rm.mono (by decide)) (by rfl) T.d__law_draw.gl T.d__law_draw.fn.kp T.d__law_draw.bi pass0 (xa_cons (xv 0) (xa_cons (xe_callB call_lenD' l_lenC (by rfl) T.m_len (by decide +kernel) (xa_cons (xv 1) xa_nil)) xa_nil))) (fun _ _ => rfl)))), ?_⟩
  intro ds M k h
  obtain ⟨-, p, c, xs, n, es, rfl, hi, h1, h2, hM, hp, hn, hk⟩ := h
  rw [show start0 ["_law_pen_here", "_law_some"] [D.obj p, c] = [some (.obj p), some c] from rfl]
  simp only [TV.wSeq, TV.wIf, TV.wOr, TV.wNot, TV.wAnd, TV.wAndV, TV.wOrV, TV.wNotV, TV.wIfE, TV.wTru, TV.wCB, TV.wCons, TV.wVar, TV.wC, TV.wNil, TV.wTest, TV.wChain, TV.wRet, TV.wRetN, TV.wNext, TV.wSet, TV.wDrop, TV.wFrz, TV.wMut, TV.wDisp, TV.wTup, TV.wOp, TV.wCall, TV.wDget, TV.wDput, TV.wFor, TV.wLc, TV.wiL, TV.wiT, TV.wiS, TV.wiR1, TV.wiR2, TV.wiEnumS, TV.wiEnum, TV.wgName, TV.wgTup, TV.wgCons, TV.wgNil, TV.wPar, TV.wPar3, TV.wAsg, TV.wUn, TV.wBM, TV.wApp, TV.wSetI, TV.wListC, TV.wSlL, TV.wSlS, TV.wSlT, TV.wNo, TV.wPart, TV.wYes, TV.wRev, TV.wMelt, TV.wNever, TV.wipe0, TV.wDictM, TV.wDictF, TV.wDict0F, TV.wPairs, List.getElem?_cons_zero, List.getElem?_cons_succ, List.set_cons_zero, List.set_cons_succ, Option.some.injEq, exists_eq_left', exists_eq_left, List.cons.injEq, and_true, true_and, TV.D.str.injEq, TV.D.int.injEq, TV.D.bl.injEq, TV.D.lst.injEq, TV.D.tup.injEq, TV.D.obj.injEq, List.map_cons, List.map_nil, TV.cmpD, TV.subD, TV.intD, TV.inSD, TV.ninSD, TV.isND, TV.notND, TV.isBD, TV.divmodC, TV.absC, isiC', TV.len_str, TV.len_lst, TV.len_tup, TV.tru_bl, TV.tru_int, TV.tru_str, TV.tru_lst, TV.tru_tup, TV.add_int, TV.add_str, TV.add_lst, TV.add_tup, TV.mul_int, TV.mul_str, TV.ix_str, TV.ix_lst, TV.ix_tup, TV.count_str, TV.eq_str, TV.ne_str, TV.eq_int, TV.ne_int, TV.eq_lst, TV.ne_lst, TV.sgx, TV.vw_non, TV.vw_bl, TV.vw_int, TV.vw_str, TV.vw_tup, TV.vw_lst, TV.vw_fro, TV.vw_dct, TV.key_str, TV.key_int, false_or, or_false, List.length_nil, TV.ty_non, TV.ty_bl, TV.ty_int, TV.ty_str, TV.ty_tup, TV.ty_lst, TV.ty_dct, TV.tn_str, TV.tn_int, TV.tn_bool, TV.tn_list, TV.tn_tuple, TV.tn_dict, TV.isT, String.reduceBEq, Bool.and_false, Bool.or_false, Bool.false_and, Bool.and_true, Bool.true_or, Bool.or_true, and_assoc, TV.D.ty.injEq, reduceCtorEq, exists_const, exists_and_left, exists_and_right, if_true, if_false, Bool.not_true, Bool.not_false, Bool.false_eq_true, reduceIte]
  refine items_len hi ?_
  refine ⟨rfl, p, _, n, es, rfl, hM, hp, hn, by omega, Int.lt_of_le_of_lt (b := 100000) (by omega) (Int.lt_trans (by decide) big_lt), fun r es' r0 r1 pe => ?_⟩
  exact items_ix hi r0 r1 fun d hd => hk d es' hd pe
end
end K01

set_option Elab.async false
set_option linter.all false
set_option maxRecDepth 100000
set_option maxHeartbeats 2000000
namespace K01
open PySem PySem.Spec PyProof.Rows L2 TV
section
variable {P : Program} {w : World} {K : PySem.W.Frag} {mg : Str → Option Value} {base : Heap}
theorem join_list (ys : List Str) : (Txt.join ("" : Str) ys).cps.toList = ys.flatMap (·.cps.toList) := by
  have key : ∀ (l : List Str) (a : Array Nat), (l.foldl (fun acc p => acc ++ ("" : Str).cps ++ p.cps) a).toList = a.toList ++ l.flatMap (·.cps.toList) := by
    intro l
    induction l with
    | nil => intro a; simp
    | cons y l ih =>
      intro a
      rw [List.foldl_cons, ih]
      have : ("" : Str).cps = #[] := by decide +kernel
      rw [this]; simp
  cases ys with
  | nil => rfl
  | cons y l =>
    show (List.foldl (fun acc p => acc ++ ("" : Str).cps ++ p.cps) y.cps l).toList = _
    rw [key]; rfl
/-- a text of single signs -/
def ofCodes (l : List Nat) : Str := ⟨l.toArray⟩
theorem join_codes (l : List Nat) : Txt.join ("" : Str) (l.map fun c => (⟨#[c]⟩ : Str)) = ofCodes l := by
  have h := join_list (l.map fun c => (⟨#[c]⟩ : Str))
  have e : ∀ l : List Nat, (l.map fun c => (⟨#[c]⟩ : Str)).flatMap (·.cps.toList) = l := by
    intro l
    induction l with
    | nil => rfl
    | cons c l ih => rw [List.map_cons, List.flatMap_cons, ih]; rfl
  rw [e] at h
  cases hj : Txt.join ("" : Str) (l.map fun c => (⟨#[c]⟩ : Str)) with
  | mk cps => rw [hj] at h; unfold ofCodes; rw [← h]
theorem codes_len (l : List Nat) : (ofCodes l).length = l.length := by simp [ofCodes, Str.length]
theorem codes_list (l : List Nat) : (ofCodes l).cps.toList = l := by simp [ofCodes]
theorem sum_codes (l : List Nat) : ((l.map fun c => (⟨#[c]⟩ : Str)).map (·.length)).sum = l.length := by
  induction l with
  | nil => rfl
  | cons c l ih => simp only [List.map_cons, List.sum_cons, List.length_cons, ih]; show 1 + _ = _; omega
theorem del_upd {M : MS} {q : Addr} {m : MO} (h : M q = none) : delM (updM M q m) q = M := by
  funext b
  unfold delM updM
  split
  · rename_i e; rw [e, h]
  · rfl
theorem app_list (a b : Str) : (a ++ b).cps.toList = a.cps.toList ++ b.cps.toList := by
  show (a.cps ++ b.cps).toList = _
  exact Array.toList_append
theorem cutS_list (z : Str) (lo hi : Option Int) : (cutS z lo hi).cps.toList = (z.cps.toList.drop (HT.sIx z.length 0 lo)).take (HT.sIx z.length z.length hi - HT.sIx z.length 0 lo) := by simp [cutS]
theorem cut_to {z : Str} {a : Int} (h : 0 ≤ a) : (cutS z none (some a)).cps.toList = z.cps.toList.take a.toNat := by
  rw [cutS_list]
  simp only [HT.sIx, List.drop_zero, Nat.sub_zero]
  rw [if_neg (by omega)]
  by_cases e : a.toNat ≤ z.length
  · rw [Nat.min_eq_left e]
  · rw [Nat.min_eq_right (by omega), List.take_of_length_le (by rw [str_len]; exact Nat.le_refl _), List.take_of_length_le (by rw [str_len]; omega)]
theorem cut_from {z : Str} {a : Int} (h : 0 ≤ a) : (cutS z (some a) none).cps.toList = z.cps.toList.drop a.toNat := by
  rw [cutS_list]
  simp only [HT.sIx]
  rw [if_neg (by omega)]
  by_cases e : a.toNat ≤ z.length
  · rw [Nat.min_eq_left e, List.take_of_length_le (by rw [List.length_drop, str_len]; exact Nat.le_refl _)]
  · rw [Nat.min_eq_right (by omega), Nat.sub_self, List.take_zero, List.drop_of_length_le (by rw [str_len]; omega)]
theorem use_draw {M0 : MS} {p : Addr} {es : List (Key × D)} {n : Nat} {m : Int} {x : XD} {k : KD} (hp : penD n es) (hn : n < 1000000) (h1 : 1 ≤ m) (h2 : m < 2 ^ 1000)
    (hk : ∀ r es', 0 ≤ r → r < m → penD (n + 1) es' → k (.int r) (updM M0 p (.dct es'))) : sp__law_draw [.obj p, .int m] (updM M0 p (.dct es)) x k :=
  ⟨rfl, p, m, n, es, rfl, updM_at, hp, hn, h1, h2, fun r es' a b c => by rw [updM_updM]; exact hk r es' a b c⟩
theorem use_pick {M0 : MS} {p : Addr} {es : List (Key × D)} {n : Nat} {c : D} {xs : List D} {x : XD} {k : KD} (hp : penD n es) (hn : n < 1000000) (hi : itemsD c = some xs) (h1 : 1 ≤ xs.length) (h2 : xs.length ≤ 100000)
    (hk : ∀ d es', d ∈ xs → penD (n + 1) es' → k d (updM M0 p (.dct es'))) : sp__law_pick [.obj p, c] (updM M0 p (.dct es)) x k :=
  ⟨rfl, p, c, xs, n, es, rfl, hi, h1, h2, updM_at, hp, hn, fun d es' a b => by rw [updM_updM]; exact hk d es' a b⟩
theorem small_lt {m : Int} (h : m < 1000000) : m < 2 ^ 1000 := Int.lt_trans h (Int.lt_trans (by decide) big_lt)
theorem items_str {z : Str} (h : z.length ≤ 100000) : itemsD (.str z) = some (TV.signs z) := by simp [itemsD, h]
theorem mem_signs {z : Str} {d : D} (h : d ∈ TV.signs z) : ∃ c, c ∈ z.cps.toList ∧ d = .str ⟨#[c]⟩ := by
  unfold TV.signs at h
  obtain ⟨c, hc, e⟩ := List.mem_map.mp h
  exact ⟨c, hc, e.symm⟩
def abc : List Nat := letters.cps.toList
def okName (s : Str) : Prop := 1 ≤ s.length ∧ s.length ≤ 8 ∧ ∀ c ∈ s.cps.toList, c ∈ abc
def sp__law_names : DSp := fun ds M _ k => ds.length = 2 ∧ ∃ p many n es, ds = [.obj p, .int many] ∧ M p = some (.dct es) ∧ penD n es ∧ n < 900000 ∧ 0 ≤ many ∧ many ≤ 1000 ∧
  ∀ (ns : List Str) es', (ns.length : Int) = many → (∀ s ∈ ns, okName s) → penD (n + 13) es' → k (.lst (ns.map .str)) (updM M p (.dct es'))
theorem ok__law_names (T : Tx K mg) : FnG P w K mg base CX0 3 T.f__law_names T.e__law_names ["_law_pen_here", "_law_many"] (rSp K sp__law_names) := by
  refine fnT T.d__law_names.fn sc__law_names (fun ds M x k h => h.1) (by decide) (fun cdv A outer s H E rm => ?_) (fun ds M x k h => h)
  refine ⟨_, (yss_cons (ys_set (i := 2) sc__law_names.nd rfl (by first | exact Or.inl rfl | exact Or.inr rfl) xstr)
      (yss_cons (ys_set (i := 3) sc__law_names.nd rfl (by first | exact Or.inl rfl | exact Or.inr rfl) (xe_bm PySem.F.plainAttrs_str PySem.F.slot_str_join PySem.F.type_str_join mt_join l_joinM (by decide) xstr (xa_cons (xl_frz (xl_lc (own := [("_law_k", 9)]) (g := gName 9) rfl sc__law_names.nd (xi_range1 (by rfl) T.m_range (xa_cons (xe_op op_addD l_addD xint (xcall (ok__law_draw T) (rm.mono (by decide)) (by rfl) T.d__law_draw.gl T.d__law_draw.fn.kp T.d__law_draw.bi pass0 (xa_cons (xv 0) (xa_cons xint xa_nil)))) xa_nil)) (blkOk_by (N := ["_law_pen_here", "_law_many", "_law_letters", "_law_word", "_law_at", "_law_first", "_law_short", "_law_by", "_law_found", "_law_k", "_law_tail"]) (sc := defScope s__law_names) (by decide +kernel)) (tg_name (by decide)) (fun _ _ _ _ _ => pg_name (i := 9) sc__law_names.nd rfl (Or.inl rfl)) (fun _ _ _ _ _ => xts_nil) (fun _ _ _ _ _ => (xcall (ok__law_pick T) (rm.mono (by decide)) (by rfl) T.d__law_pick.gl T.d__law_pick.fn.kp T.d__law_pick.bi pass0 (xa_cons (xv 0) (xa_cons (xv 2) xa_nil)))))) xa_nil)))
      (yss_cons (ys_par3 (i := 4) (j := 5) (l := 6) rfl sc__law_names.nd rfl rfl rfl (by decide) (by decide) (by decide) rfl rfl rfl (xa_cons (xcall (ok__law_draw T) (rm.mono (by decide)) (by rfl) T.d__law_draw.gl T.d__law_draw.fn.kp T.d__law_draw.bi pass0 (xa_cons (xv 0) (xa_cons (xe_callB call_lenD' l_lenC (by rfl) T.m_len (by decide +kernel) (xa_cons (xv 3) xa_nil)) xa_nil))) (xa_cons (xcall (ok__law_draw T) (rm.mono (by decide)) (by rfl) T.d__law_draw.gl T.d__law_draw.fn.kp T.d__law_draw.bi pass0 (xa_cons (xv 0) (xa_cons xint xa_nil))) (xa_cons (xcall (ok__law_draw T) (rm.mono (by decide)) (by rfl) T.d__law_draw.gl T.d__law_draw.fn.kp T.d__law_draw.bi pass0 (xa_cons (xv 0) (xa_cons xint xa_nil))) xa_nil))) (by rfl))
      (yss_cons (ys_par (i := 7) (j := 8) rfl sc__law_names.nd rfl rfl (by decide) rfl rfl (xa_cons (xcall (ok__law_pick T) (rm.mono (by decide)) (by rfl) T.d__law_pick.gl T.d__law_pick.fn.kp T.d__law_pick.bi pass0 (xa_cons (xv 0) (xa_cons (xl_frz (xl_lst (xa_cons xint (xa_cons xint (xa_cons xint (xa_cons xint (xa_cons xint (xa_cons xint (xa_cons xint (xa_cons xint (xa_cons xint (xa_cons xint (xa_cons xint (xa_cons xint xa_nil)))))))))))))) xa_nil))) (xa_cons (xl_mut (xl_lst xa_nil)) xa_nil)) (by rfl))
      (yss_cons (ys_for PassesOwn.never rfl (xi_range1 (by rfl) T.m_range (xa_cons (xv 1) xa_nil)) (xg_name (i := 9) sc__law_names.nd rfl (by first | exact Or.inl rfl | exact Or.inr rfl)) (yss_cons (ys_set (i := 10) sc__law_names.nd rfl (by first | exact Or.inl rfl | exact Or.inr rfl) (xe_sliceS (xe_sliceS (xv 3) (xo_some (xe_op op_addD l_addD (xv 4) xint)) xo_none) xo_none (xo_some (xe_ix (xl_frz (xl_lst (xa_cons xint (xa_cons (xe_op op_mod l_intD (xv 9) xint) xa_nil)))) (xv 6) (fun _ _ => rfl)))))
      (yss_one (ys_expr (xe_append (xv 8) (xe_op op_addD l_addD (xe_op op_addD l_addD (xe_sliceS (xv 3) xo_none (xo_some (xv 4))) (xe_ix (xv 2) (xe_op op_mod l_intD (xe_op op_addD l_addD (xv 5) (xe_op op_mulD l_mulD (xv 7) (xv 9))) xint) (fun _ _ => rfl))) (xv 10)))))))
      (yss_one (ys_ret (xmelt 8)))))))), ?_⟩
  intro ds M k h
  obtain ⟨-, p, many, n, es, rfl, hM, hp, hn, hm0, hm1, hk⟩ := h
  rw [show start0 ["_law_pen_here", "_law_many", "_law_letters", "_law_word", "_law_at", "_law_first", "_law_short", "_law_by", "_law_found", "_law_k", "_law_tail"] [D.obj p, D.int many] = [some (.obj p), some (.int many), none, none, none, none, none, none, none, none, none] from rfl]
  obtain ⟨M0, rfl⟩ : ∃ M0, M = updM M0 p (.dct es) := ⟨M, (updM_self hM).symm⟩
  simp only [updM_updM] at hk
  simp only [TV.wSeq, TV.wIf, TV.wOr, TV.wNot, TV.wAnd, TV.wAndV, TV.wOrV, TV.wNotV, TV.wIfE, TV.wTru, TV.wCB, TV.wCons, TV.wVar, TV.wC, TV.wNil, TV.wTest, TV.wChain, TV.wRet, TV.wRetN, TV.wNext, TV.wSet, TV.wDrop, TV.wFrz, TV.wMut, TV.wDisp, TV.wTup, TV.wOp, TV.wCall, TV.wDget, TV.wDput, TV.wFor, TV.wLc, TV.wiL, TV.wiT, TV.wiS, TV.wiR1, TV.wiR2, TV.wiEnumS, TV.wiEnum, TV.wgName, TV.wgTup, TV.wgCons, TV.wgNil, TV.wPar, TV.wPar3, TV.wAsg, TV.wUn, TV.wBM, TV.wApp, TV.wSetI, TV.wListC, TV.wSlL, TV.wSlS, TV.wSlT, TV.wNo, TV.wPart, TV.wYes, TV.wRev, TV.wMelt, TV.wNever, TV.wipe0, TV.wDictM, TV.wDictF, TV.wDict0F, TV.wPairs, List.getElem?_cons_zero, List.getElem?_cons_succ, List.set_cons_zero, List.set_cons_succ, Option.some.injEq, exists_eq_left', exists_eq_left, List.cons.injEq, and_true, true_and, TV.D.str.injEq, TV.D.int.injEq, TV.D.bl.injEq, TV.D.lst.injEq, TV.D.tup.injEq, TV.D.obj.injEq, List.map_cons, List.map_nil, TV.cmpD, TV.subD, TV.intD, TV.inSD, TV.ninSD, TV.isND, TV.notND, TV.isBD, TV.divmodC, TV.absC, isiC', TV.len_str, TV.len_lst, TV.len_tup, TV.tru_bl, TV.tru_int, TV.tru_str, TV.tru_lst, TV.tru_tup, TV.add_int, TV.add_str, TV.add_lst, TV.add_tup, TV.mul_int, TV.mul_str, TV.ix_str, TV.ix_lst, TV.ix_tup, TV.count_str, TV.eq_str, TV.ne_str, TV.eq_int, TV.ne_int, TV.eq_lst, TV.ne_lst, TV.sgx, TV.vw_non, TV.vw_bl, TV.vw_int, TV.vw_str, TV.vw_tup, TV.vw_lst, TV.vw_fro, TV.vw_dct, TV.key_str, TV.key_int, false_or, or_false, List.length_nil, TV.ty_non, TV.ty_bl, TV.ty_int, TV.ty_str, TV.ty_tup, TV.ty_lst, TV.ty_dct, TV.tn_str, TV.tn_int, TV.tn_bool, TV.tn_list, TV.tn_tuple, TV.tn_dict, TV.isT, String.reduceBEq, Bool.and_false, Bool.or_false, Bool.false_and, Bool.and_true, Bool.true_or, Bool.or_true, and_assoc, TV.D.ty.injEq, reduceCtorEq, exists_const, exists_and_left, exists_and_right, if_true, if_false, Bool.not_true, Bool.not_false, Bool.false_eq_true, reduceIte]
  refine use_draw hp (by omega) (by decide) (small_lt (by decide)) fun r es1 r0 r1 p1 => ?_
  simp only [TV.wSeq, TV.wIf, TV.wOr, TV.wNot, TV.wAnd, TV.wAndV, TV.wOrV, TV.wNotV, TV.wIfE, TV.wTru, TV.wCB, TV.wCons, TV.wVar, TV.wC, TV.wNil, TV.wTest, TV.wChain, TV.wRet, TV.wRetN, TV.wNext, TV.wSet, TV.wDrop, TV.wFrz, TV.wMut, TV.wDisp, TV.wTup, TV.wOp, TV.wCall, TV.wDget, TV.wDput, TV.wFor, TV.wLc, TV.wiL, TV.wiT, TV.wiS, TV.wiR1, TV.wiR2, TV.wiEnumS, TV.wiEnum, TV.wgName, TV.wgTup, TV.wgCons, TV.wgNil, TV.wPar, TV.wPar3, TV.wAsg, TV.wUn, TV.wBM, TV.wApp, TV.wSetI, TV.wListC, TV.wSlL, TV.wSlS, TV.wSlT, TV.wNo, TV.wPart, TV.wYes, TV.wRev, TV.wMelt, TV.wNever, TV.wipe0, TV.wDictM, TV.wDictF, TV.wDict0F, TV.wPairs, List.getElem?_cons_zero, List.getElem?_cons_succ, List.set_cons_zero, List.set_cons_succ, Option.some.injEq, exists_eq_left', exists_eq_left, List.cons.injEq, and_true, true_and, TV.D.str.injEq, TV.D.int.injEq, TV.D.bl.injEq, TV.D.lst.injEq, TV.D.tup.injEq, TV.D.obj.injEq, List.map_cons, List.map_nil, TV.cmpD, TV.subD, TV.intD, TV.inSD, TV.ninSD, TV.isND, TV.notND, TV.isBD, TV.divmodC, TV.absC, isiC', TV.len_str, TV.len_lst, TV.len_tup, TV.tru_bl, TV.tru_int, TV.tru_str, TV.tru_lst, TV.tru_tup, TV.add_int, TV.add_str, TV.add_lst, TV.add_tup, TV.mul_int, TV.mul_str, TV.ix_str, TV.ix_lst, TV.ix_tup, TV.count_str, TV.eq_str, TV.ne_str, TV.eq_int, TV.ne_int, TV.eq_lst, TV.ne_lst, TV.sgx, TV.vw_non, TV.vw_bl, TV.vw_int, TV.vw_str, TV.vw_tup, TV.vw_lst, TV.vw_fro, TV.vw_dct, TV.key_str, TV.key_int, false_or, or_false, List.length_nil, TV.ty_non, TV.ty_bl, TV.ty_int, TV.ty_str, TV.ty_tup, TV.ty_lst, TV.ty_dct, TV.tn_str, TV.tn_int, TV.tn_bool, TV.tn_list, TV.tn_tuple, TV.tn_dict, TV.isT, String.reduceBEq, Bool.and_false, Bool.or_false, Bool.false_and, Bool.and_true, Bool.true_or, Bool.or_true, and_assoc, TV.D.ty.injEq, reduceCtorEq, exists_const, exists_and_left, exists_and_right, if_true, if_false, Bool.not_true, Bool.not_false, Bool.false_eq_true, reduceIte]
  refine ⟨by omega, by omega, by rw [rng_len]; omega, fun i acc M' => ∃ (l : List Nat) (es' : List (Key × D)), l.length = i ∧ (∀ c ∈ l, c ∈ abc) ∧ acc = l.map (fun c => D.str ⟨#[c]⟩) ∧ penD (n + 1 + i) es' ∧ M' = updM M0 p (.dct es'), ⟨[], es1, rfl, by simp, rfl, p1, rfl⟩, ?_, ?_⟩
  · rintro i d acc M' hi ⟨l, es', hl, hc, rfl, p2, rfl⟩
    obtain ⟨hi, rfl⟩ := rng_get hi
    refine use_pick p2 (by omega) (items_str (by decide +kernel)) (by rw [signs_len]; decide +kernel) (by rw [signs_len]; decide +kernel) fun d es2 hd p3 => ?_
    obtain ⟨c, hc1, rfl⟩ := mem_signs hd
    exact ⟨l ++ [c], es2, by simp [hl], by
      intro b hb
      rcases List.mem_append.mp hb with hb | hb
      · exact hc b hb
      · rw [List.mem_singleton.mp hb]; exact hc1, by simp, p3, rfl⟩
  · rintro acc M' ⟨l, es', hl, hc, rfl, p2, rfl⟩
    rw [rng_len] at hl p2
    have hl8 : l.length ≤ 8 := by omega
    refine ⟨_, _, l.map (fun c => (⟨#[c]⟩ : Str)), rfl, rfl, .inl (by rw [List.map_map]; rfl), ?_, ?_⟩
    · rw [sum_codes]; simp only [List.length_map]; show _ + _ * 0 ≤ _; omega
    rw [join_codes]
    have wl : (ofCodes l).length = l.length := codes_len l
    have wc : (ofCodes l).cps.toList = l := codes_list l
    generalize ofCodes l = z at wl wc
    simp only [TV.wSeq, TV.wIf, TV.wOr, TV.wNot, TV.wAnd, TV.wAndV, TV.wOrV, TV.wNotV, TV.wIfE, TV.wTru, TV.wCB, TV.wCons, TV.wVar, TV.wC, TV.wNil, TV.wTest, TV.wChain, TV.wRet, TV.wRetN, TV.wNext, TV.wSet, TV.wDrop, TV.wFrz, TV.wMut, TV.wDisp, TV.wTup, TV.wOp, TV.wCall, TV.wDget, TV.wDput, TV.wFor, TV.wLc, TV.wiL, TV.wiT, TV.wiS, TV.wiR1, TV.wiR2, TV.wiEnumS, TV.wiEnum, TV.wgName, TV.wgTup, TV.wgCons, TV.wgNil, TV.wPar, TV.wPar3, TV.wAsg, TV.wUn, TV.wBM, TV.wApp, TV.wSetI, TV.wListC, TV.wSlL, TV.wSlS, TV.wSlT, TV.wNo, TV.wPart, TV.wYes, TV.wRev, TV.wMelt, TV.wNever, TV.wipe0, TV.wDictM, TV.wDictF, TV.wDict0F, TV.wPairs, List.getElem?_cons_zero, List.getElem?_cons_succ, List.set_cons_zero, List.set_cons_succ, Option.some.injEq, exists_eq_left', exists_eq_left, List.cons.injEq, and_true, true_and, TV.D.str.injEq, TV.D.int.injEq, TV.D.bl.injEq, TV.D.lst.injEq, TV.D.tup.injEq, TV.D.obj.injEq, List.map_cons, List.map_nil, TV.cmpD, TV.subD, TV.intD, TV.inSD, TV.ninSD, TV.isND, TV.notND, TV.isBD, TV.divmodC, TV.absC, isiC', TV.len_str, TV.len_lst, TV.len_tup, TV.tru_bl, TV.tru_int, TV.tru_str, TV.tru_lst, TV.tru_tup, TV.add_int, TV.add_str, TV.add_lst, TV.add_tup, TV.mul_int, TV.mul_str, TV.ix_str, TV.ix_lst, TV.ix_tup, TV.count_str, TV.eq_str, TV.ne_str, TV.eq_int, TV.ne_int, TV.eq_lst, TV.ne_lst, TV.sgx, TV.vw_non, TV.vw_bl, TV.vw_int, TV.vw_str, TV.vw_tup, TV.vw_lst, TV.vw_fro, TV.vw_dct, TV.key_str, TV.key_int, false_or, or_false, List.length_nil, TV.ty_non, TV.ty_bl, TV.ty_int, TV.ty_str, TV.ty_tup, TV.ty_lst, TV.ty_dct, TV.tn_str, TV.tn_int, TV.tn_bool, TV.tn_list, TV.tn_tuple, TV.tn_dict, TV.isT, String.reduceBEq, Bool.and_false, Bool.or_false, Bool.false_and, Bool.and_true, Bool.true_or, Bool.or_true, and_assoc, TV.D.ty.injEq, reduceCtorEq, exists_const, exists_and_left, exists_and_right, if_true, if_false, Bool.not_true, Bool.not_false, Bool.false_eq_true, reduceIte]
    refine ⟨by omega, ?_⟩
    refine use_draw p2 (by omega) (by omega) (small_lt (by omega)) fun at' es2 a0 a1 p3 => ?_
    refine use_draw p3 (by omega) (by decide) (small_lt (by decide)) fun first es3 f0 f1 p4 => ?_
    refine use_draw p4 (by omega) (by decide) (small_lt (by decide)) fun short es4 s0 s1 p5 => ?_
    refine ⟨by decide, ?_⟩
    refine use_pick p5 (by omega) rfl (by decide) (by decide) fun dby es5 hby p6 => ?_
    obtain ⟨by', rfl, b0, b1⟩ : ∃ b : Int, dby = .int b ∧ 0 ≤ b ∧ b ≤ 25 := by
      simp only [List.mem_cons, List.not_mem_nil, or_false] at hby
      rcases hby with h | h | h | h | h | h | h | h | h | h | h | h <;> exact ⟨_, h, by decide, by decide⟩
    refine ⟨by omega, fun q hq => ⟨by omega, by omega, fun i ρ M' => ∃ (ns : List Str) (dk dt : Option D), ns.length = i ∧ (∀ s ∈ ns, okName s) ∧ ρ = [some (.obj p), some (.int many), some (.str "abcdefghijklmnopqrstuvwxyz"), some (.str z), some (.int at'), some (.int first), some (.int short), some (.int by'), some (.obj q), dk, dt] ∧ M' = updM (updM M0 p (.dct es5)) q (.lst (ns.map D.str)), ⟨[], none, none, rfl, by simp, rfl, rfl⟩, ?_, ?_⟩⟩
    · rintro i d ρ M' hi ⟨ns, dk, dt, hn1, hn2, rfl, rfl⟩
      obtain ⟨hi, rfl⟩ := rng_get hi
      simp only [TV.wSeq, TV.wIf, TV.wOr, TV.wNot, TV.wAnd, TV.wAndV, TV.wOrV, TV.wNotV, TV.wIfE, TV.wTru, TV.wCB, TV.wCons, TV.wVar, TV.wC, TV.wNil, TV.wTest, TV.wChain, TV.wRet, TV.wRetN, TV.wNext, TV.wSet, TV.wDrop, TV.wFrz, TV.wMut, TV.wDisp, TV.wTup, TV.wOp, TV.wCall, TV.wDget, TV.wDput, TV.wFor, TV.wLc, TV.wiL, TV.wiT, TV.wiS, TV.wiR1, TV.wiR2, TV.wiEnumS, TV.wiEnum, TV.wgName, TV.wgTup, TV.wgCons, TV.wgNil, TV.wPar, TV.wPar3, TV.wAsg, TV.wUn, TV.wBM, TV.wApp, TV.wSetI, TV.wListC, TV.wSlL, TV.wSlS, TV.wSlT, TV.wNo, TV.wPart, TV.wYes, TV.wRev, TV.wMelt, TV.wNever, TV.wipe0, TV.wDictM, TV.wDictF, TV.wDict0F, TV.wPairs, List.getElem?_cons_zero, List.getElem?_cons_succ, List.set_cons_zero, List.set_cons_succ, Option.some.injEq, exists_eq_left', exists_eq_left, List.cons.injEq, and_true, true_and, TV.D.str.injEq, TV.D.int.injEq, TV.D.bl.injEq, TV.D.lst.injEq, TV.D.tup.injEq, TV.D.obj.injEq, List.map_cons, List.map_nil, TV.cmpD, TV.subD, TV.intD, TV.inSD, TV.ninSD, TV.isND, TV.notND, TV.isBD, TV.divmodC, TV.absC, isiC', TV.len_str, TV.len_lst, TV.len_tup, TV.tru_bl, TV.tru_int, TV.tru_str, TV.tru_lst, TV.tru_tup, TV.add_int, TV.add_str, TV.add_lst, TV.add_tup, TV.mul_int, TV.mul_str, TV.ix_str, TV.ix_lst, TV.ix_tup, TV.count_str, TV.eq_str, TV.ne_str, TV.eq_int, TV.ne_int, TV.eq_lst, TV.ne_lst, TV.sgx, TV.vw_non, TV.vw_bl, TV.vw_int, TV.vw_str, TV.vw_tup, TV.vw_lst, TV.vw_fro, TV.vw_dct, TV.key_str, TV.key_int, false_or, or_false, List.length_nil, TV.ty_non, TV.ty_bl, TV.ty_int, TV.ty_str, TV.ty_tup, TV.ty_lst, TV.ty_dct, TV.tn_str, TV.tn_int, TV.tn_bool, TV.tn_list, TV.tn_tuple, TV.tn_dict, TV.isT, String.reduceBEq, Bool.and_false, Bool.or_false, Bool.false_and, Bool.and_true, Bool.true_or, Bool.or_true, and_assoc, TV.D.ty.injEq, reduceCtorEq, exists_const, exists_and_left, exists_and_right, if_true, if_false, Bool.not_true, Bool.not_false, Bool.false_eq_true, reduceIte]
      obtain ⟨t, ht0, hat⟩ : ∃ t : Int, 0 ≤ t ∧ atI [D.int 8, D.int ((0 + (i : Int)) % 3)] short = some (.int t) := by
        rcases (by omega : short = 0 ∨ short = 1) with e | e <;> subst e
        · exact ⟨8, by decide, rfl⟩
        · exact ⟨_, Int.emod_nonneg _ (by decide), rfl⟩
      have hL : ("abcdefghijklmnopqrstuvwxyz" : Str).cps.toList.length = 26 := by decide +kernel
      obtain ⟨c, e1, e2⟩ := atI_in (l := ("abcdefghijklmnopqrstuvwxyz" : Str).cps.toList) (i := (first + by' * (0 + (i : Int))) % 26) (Int.emod_nonneg _ (by decide)) (by rw [hL]; exact Int.emod_lt_of_pos _ (by decide))
      have hcm : c ∈ abc := List.mem_of_getElem? e1
      have t1 : (cutS z none (some at')).cps.toList = l.take at'.toNat := by rw [cut_to a0, wc]
      have t2 : (cutS (cutS z (some (at' + 1)) none) none (some t)).cps.toList = (l.drop (at' + 1).toNat).take t.toNat := by rw [cut_to ht0, cut_from (by omega), wc]
      have t3 : (cutS z (some (at' + 1)) none).cps.toList = l.drop (at' + 1).toNat := by rw [cut_from (by omega), wc]
      have l1 : (cutS z none (some at')).length = min at'.toNat l.length := by rw [← str_len, t1, List.length_take]
      have l2 : (cutS (cutS z (some (at' + 1)) none) none (some t)).length = min t.toNat (l.length - (at' + 1).toNat) := by rw [← str_len, t2, List.length_take, List.length_drop]
      have l3 : (cutS z (some (at' + 1)) none).length = l.length - (at' + 1).toNat := by rw [← str_len, t3, List.length_drop]
      have l4 : (⟨#[c]⟩ : Str).length = 1 := rfl
      have hlong : ns.length < 100000 := by omega
      refine ⟨by omega, by decide, (show 2 ≤ 100000 by decide), _, hat, t, rfl, by omega, ⟨_, updM_at⟩, by omega, mulW b0 (small_lt (by omega)) (by omega) (small_lt (by omega)), by decide, by decide +kernel, c, e2, by omega, by rw [len_app]; omega, _, updM_at, by rw [List.length_map]; exact hlong, ns ++ [cutS z none (some at') ++ ⟨#[c]⟩ ++ cutS (cutS z (some (at' + 1)) none) none (some t)], by simp [hn1], ?_, by rw [updM_updM, List.map_append]; rfl⟩
      intro s hs
      rcases List.mem_append.mp hs with hs | hs
      · exact hn2 s hs
      · rw [List.mem_singleton.mp hs]
        refine ⟨by rw [len_app, len_app]; omega, by rw [len_app, len_app]; omega, fun b hb => ?_⟩
        rw [app_list, app_list, t1, t2] at hb
        rcases List.mem_append.mp hb with hb | hb
        · rcases List.mem_append.mp hb with hb | hb
          · exact hc b (List.mem_of_mem_take hb)
          · rw [List.mem_singleton.mp hb]; exact hcm
        · exact hc b (List.mem_of_mem_drop (List.mem_of_mem_take hb))
    · rintro ρ M' ⟨ns, dk, dt, hn1, hn2, rfl, rfl⟩
      rw [rng_len] at hn1
      refine ⟨q, rfl, .inl ⟨_, updM_at, ?_⟩⟩
      rw [del_upd hq]
      exact hk ns es5 (by omega) hn2 (p6.up (by omega))
end
end K01

set_option Elab.async false
set_option linter.all false
set_option maxRecDepth 100000
set_option maxHeartbeats 2000000
namespace K01
open PySem PySem.Spec PyProof.Rows L2 TV
section
variable {P : Program} {w : World} {K : PySem.W.Frag} {mg : Str → Option Value} {base : Heap}
/-- a rhythm: one to six signs, one of them x -/
def okRh (z : Str) : Prop := 1 ≤ z.length ∧ z.length ≤ 6 ∧ (∀ c ∈ z.cps.toList, c = 120 ∨ c = 45) ∧ 120 ∈ z.cps.toList
def sp__law_rhythm : DSp := fun ds M _ k => ds.length = 1 ∧ ∃ p n es, ds = [.obj p] ∧ M p = some (.dct es) ∧ penD n es ∧ n < 900000 ∧
  ∀ z es', okRh z → penD (n + 8) es' → k (.str z) (updM M p (.dct es'))
theorem updM_comm {M : MS} {p q : Addr} {m n : MO} (h : p ≠ q) : updM (updM M p m) q n = updM (updM M q n) p m := by
  funext b
  unfold updM
  split <;> split <;> first | rfl | (rename_i e f; exact absurd (f.symm.trans e) h)
theorem len_obj {M : MS} {q : Addr} {ds : List D} {k : D → Prop} (h : M q = some (.lst ds)) (hk : k (.int ds.length)) : lenC M [.obj q] k :=
  ⟨_, rfl, by rw [vw_obj_lst h]; exact hk⟩
theorem ok__law_rhythm (T : Tx K mg) : FnG P w K mg base CX0 3 T.f__law_rhythm T.e__law_rhythm ["_law_pen_here"] (rSp K sp__law_rhythm) := by
  refine fnT T.d__law_rhythm.fn sc__law_rhythm (fun ds M x k h => h.1) (by decide) (fun cdv A outer s H E rm => ?_) (fun ds M x k h => h)
  refine ⟨_, (yss_cons (ys_setLcM (i := 1) (own := [("_law_k", 2)]) (g := gName 2) rfl sc__law_rhythm.nd rfl rfl (sw_true rfl rfl rfl (by decide +kernel)) (xi_range1 (by rfl) T.m_range (xa_cons (xe_op op_addD l_addD xint (xcall (ok__law_draw T) (rm.mono (by decide)) (by rfl) T.d__law_draw.gl T.d__law_draw.fn.kp T.d__law_draw.bi pass0 (xa_cons (xv 0) (xa_cons xint xa_nil)))) xa_nil)) (blkOk_by (N := ["_law_pen_here", "_law_signs", "_law_k"]) (sc := defScope s__law_rhythm) (by decide +kernel)) (tg_name (by decide)) (fun _ _ _ _ _ => pg_name (i := 2) sc__law_rhythm.nd rfl (Or.inl rfl)) (fun _ _ _ _ _ => xts_nil) (fun _ _ _ _ _ => (xcall (ok__law_pick T) (rm.mono (by decide)) (by rfl) T.d__law_pick.gl T.d__law_pick.fn.kp T.d__law_pick.bi pass0 (xa_cons (xv 0) (xa_cons (xl_frz (xl_lst (xa_cons xstr (xa_cons xstr (xa_cons xstr xa_nil))))) xa_nil)))))
      (yss_cons (ys_seti xstr (xv 1) (xcall (ok__law_draw T) (rm.mono (by decide)) (by rfl) T.d__law_draw.gl T.d__law_draw.fn.kp T.d__law_draw.bi pass0 (xa_cons (xv 0) (xa_cons (xe_callB call_lenD' l_lenC (by rfl) T.m_len (by decide +kernel) (xa_cons (xv 1) xa_nil)) xa_nil))))
      (yss_one (ys_ret (xe_bm PySem.F.plainAttrs_str PySem.F.slot_str_join PySem.F.type_str_join mt_join l_joinM (by decide) xstr (xa_cons (xmelt 1) xa_nil)))))), ?_⟩
  intro ds M k h
  obtain ⟨-, p, n, es, rfl, hM, hp, hn, hk⟩ := h
  rw [show start0 ["_law_pen_here", "_law_signs", "_law_k"] [D.obj p] = [some (.obj p), none, none] from rfl]
  obtain ⟨M0, rfl⟩ : ∃ M0, M = updM M0 p (.dct es) := ⟨M, (updM_self hM).symm⟩
  simp only [updM_updM] at hk
  simp only [TV.wSeq, TV.wIf, TV.wOr, TV.wNot, TV.wAnd, TV.wAndV, TV.wOrV, TV.wNotV, TV.wIfE, TV.wTru, TV.wCB, TV.wCons, TV.wVar, TV.wC, TV.wNil, TV.wTest, TV.wChain, TV.wRet, TV.wRetN, TV.wNext, TV.wSet, TV.wDrop, TV.wFrz, TV.wMut, TV.wDisp, TV.wTup, TV.wOp, TV.wCall, TV.wDget, TV.wDput, TV.wFor, TV.wLc, TV.wiL, TV.wiT, TV.wiS, TV.wiR1, TV.wiR2, TV.wiEnumS, TV.wiEnum, TV.wgName, TV.wgTup, TV.wgCons, TV.wgNil, TV.wPar, TV.wPar3, TV.wAsg, TV.wUn, TV.wBM, TV.wApp, TV.wSetI, TV.wListC, TV.wSlL, TV.wSlS, TV.wSlT, TV.wNo, TV.wPart, TV.wYes, TV.wRev, TV.wMelt, TV.wNever, TV.wipe0, TV.wDictM, TV.wDictF, TV.wDict0F, TV.wPairs, List.getElem?_cons_zero, List.getElem?_cons_succ, List.set_cons_zero, List.set_cons_succ, Option.some.injEq, exists_eq_left', exists_eq_left, List.cons.injEq, and_true, true_and, TV.D.str.injEq, TV.D.int.injEq, TV.D.bl.injEq, TV.D.lst.injEq, TV.D.tup.injEq, TV.D.obj.injEq, List.map_cons, List.map_nil, TV.cmpD, TV.subD, TV.intD, TV.inSD, TV.ninSD, TV.isND, TV.notND, TV.isBD, TV.divmodC, TV.absC, isiC', TV.len_str, TV.len_lst, TV.len_tup, TV.tru_bl, TV.tru_int, TV.tru_str, TV.tru_lst, TV.tru_tup, TV.add_int, TV.add_str, TV.add_lst, TV.add_tup, TV.mul_int, TV.mul_str, TV.ix_str, TV.ix_lst, TV.ix_tup, TV.count_str, TV.eq_str, TV.ne_str, TV.eq_int, TV.ne_int, TV.eq_lst, TV.ne_lst, TV.sgx, TV.vw_non, TV.vw_bl, TV.vw_int, TV.vw_str, TV.vw_tup, TV.vw_lst, TV.vw_fro, TV.vw_dct, TV.key_str, TV.key_int, false_or, or_false, List.length_nil, TV.ty_non, TV.ty_bl, TV.ty_int, TV.ty_str, TV.ty_tup, TV.ty_lst, TV.ty_dct, TV.tn_str, TV.tn_int, TV.tn_bool, TV.tn_list, TV.tn_tuple, TV.tn_dict, TV.isT, String.reduceBEq, Bool.and_false, Bool.or_false, Bool.false_and, Bool.and_true, Bool.true_or, Bool.or_true, and_assoc, TV.D.ty.injEq, reduceCtorEq, exists_const, exists_and_left, exists_and_right, if_true, if_false, Bool.not_true, Bool.not_false, Bool.false_eq_true, reduceIte]
  refine use_draw hp (by omega) (by decide) (small_lt (by decide)) fun r es1 r0 r1 p1 => ?_
  simp only [TV.wSeq, TV.wIf, TV.wOr, TV.wNot, TV.wAnd, TV.wAndV, TV.wOrV, TV.wNotV, TV.wIfE, TV.wTru, TV.wCB, TV.wCons, TV.wVar, TV.wC, TV.wNil, TV.wTest, TV.wChain, TV.wRet, TV.wRetN, TV.wNext, TV.wSet, TV.wDrop, TV.wFrz, TV.wMut, TV.wDisp, TV.wTup, TV.wOp, TV.wCall, TV.wDget, TV.wDput, TV.wFor, TV.wLc, TV.wiL, TV.wiT, TV.wiS, TV.wiR1, TV.wiR2, TV.wiEnumS, TV.wiEnum, TV.wgName, TV.wgTup, TV.wgCons, TV.wgNil, TV.wPar, TV.wPar3, TV.wAsg, TV.wUn, TV.wBM, TV.wApp, TV.wSetI, TV.wListC, TV.wSlL, TV.wSlS, TV.wSlT, TV.wNo, TV.wPart, TV.wYes, TV.wRev, TV.wMelt, TV.wNever, TV.wipe0, TV.wDictM, TV.wDictF, TV.wDict0F, TV.wPairs, List.getElem?_cons_zero, List.getElem?_cons_succ, List.set_cons_zero, List.set_cons_succ, Option.some.injEq, exists_eq_left', exists_eq_left, List.cons.injEq, and_true, true_and, TV.D.str.injEq, TV.D.int.injEq, TV.D.bl.injEq, TV.D.lst.injEq, TV.D.tup.injEq, TV.D.obj.injEq, List.map_cons, List.map_nil, TV.cmpD, TV.subD, TV.intD, TV.inSD, TV.ninSD, TV.isND, TV.notND, TV.isBD, TV.divmodC, TV.absC, isiC', TV.len_str, TV.len_lst, TV.len_tup, TV.tru_bl, TV.tru_int, TV.tru_str, TV.tru_lst, TV.tru_tup, TV.add_int, TV.add_str, TV.add_lst, TV.add_tup, TV.mul_int, TV.mul_str, TV.ix_str, TV.ix_lst, TV.ix_tup, TV.count_str, TV.eq_str, TV.ne_str, TV.eq_int, TV.ne_int, TV.eq_lst, TV.ne_lst, TV.sgx, TV.vw_non, TV.vw_bl, TV.vw_int, TV.vw_str, TV.vw_tup, TV.vw_lst, TV.vw_fro, TV.vw_dct, TV.key_str, TV.key_int, false_or, or_false, List.length_nil, TV.ty_non, TV.ty_bl, TV.ty_int, TV.ty_str, TV.ty_tup, TV.ty_lst, TV.ty_dct, TV.tn_str, TV.tn_int, TV.tn_bool, TV.tn_list, TV.tn_tuple, TV.tn_dict, TV.isT, String.reduceBEq, Bool.and_false, Bool.or_false, Bool.false_and, Bool.and_true, Bool.true_or, Bool.or_true, and_assoc, TV.D.ty.injEq, reduceCtorEq, exists_const, exists_and_left, exists_and_right, if_true, if_false, Bool.not_true, Bool.not_false, Bool.false_eq_true, reduceIte]
  refine ⟨by omega, by omega, by rw [rng_len]; omega, fun i acc M' => ∃ (l : List Nat) (es' : List (Key × D)), l.length = i ∧ (∀ c ∈ l, c = 120 ∨ c = 45) ∧ acc = l.map (fun c => D.str ⟨#[c]⟩) ∧ penD (n + 1 + i) es' ∧ M' = updM M0 p (.dct es'), ⟨[], es1, rfl, by simp, rfl, p1, rfl⟩, ?_, ?_⟩
  · rintro i d acc M' hi ⟨l, es', hl, hc, rfl, p2, rfl⟩
    obtain ⟨hi, rfl⟩ := rng_get hi
    refine ⟨by decide, ?_⟩
    refine use_pick p2 (by omega) rfl (by decide) (by decide) fun d es2 hd p3 => ?_
    have ⟨c, hc1, hc2⟩ : ∃ c, d = D.str ⟨#[c]⟩ ∧ (c = 120 ∨ c = 45) := by
      have e1 : ("x" : Str) = ⟨#[120]⟩ := x_eq
      have e2 : ("-" : Str) = ⟨#[45]⟩ := by decide +kernel
      simp only [List.mem_cons, List.not_mem_nil, or_false, e1, e2] at hd
      rcases hd with h | h | h
      · exact ⟨_, h, .inl rfl⟩
      · exact ⟨_, h, .inl rfl⟩
      · exact ⟨_, h, .inr rfl⟩
    subst hc1
    exact ⟨l ++ [c], es2, by simp [hl], by
      intro b hb
      rcases List.mem_append.mp hb with hb | hb
      · exact hc b hb
      · rw [List.mem_singleton.mp hb]; exact hc2, by simp, p3, rfl⟩
  · rintro acc M' ⟨l, es', hl, hc, rfl, p2, rfl⟩
    rw [rng_len] at hl p2
    intro q hq
    have hpq : p ≠ q := fun e => by subst e; rw [updM_at] at hq; cases hq
    have hq0 : M0 q = none := by rw [updM_ne (fun e => hpq e.symm)] at hq; exact hq
    refine len_obj updM_at ?_
    rw [updM_comm hpq]
    refine use_draw p2 (by omega) (by rw [List.length_map]; omega) (small_lt (by rw [List.length_map]; omega)) fun j es2 j0 j1 p3 => ?_
    rw [List.length_map] at j1
    refine ⟨_, by rw [updM_ne (fun e => hpq e.symm), updM_at], j, rfl, j.toNat, by rw [List.length_map]; unfold ixN; rw [if_pos j0, if_pos j1], .inl ⟨_, updM_at, ?_⟩⟩
    have e1 : (l.map fun c => D.str ⟨#[c]⟩).set j.toNat (D.str "x") = ((l.set j.toNat 120).map fun c => (⟨#[c]⟩ : Str)).map D.str := by
      rw [x_eq, List.map_map, List.map_set]; rfl
    have e2 : ∀ m, delM (updM (updM (updM M0 q (.lst (l.map fun c => D.str ⟨#[c]⟩))) p (.dct es2)) q m) q = updM M0 p (.dct es2) := fun m => by
      rw [← updM_comm hpq, updM_updM, del_upd (by rw [updM_ne (fun e => hpq e.symm)]; exact hq0)]
    rw [e2, e1]
    refine ⟨_, _, _, rfl, rfl, .inl rfl, ?_, ?_⟩
    · rw [sum_codes]; simp only [List.length_map, List.length_set]; show _ + _ * 0 ≤ _; omega
    rw [join_codes]
    refine hk _ es2 ⟨by rw [codes_len, List.length_set]; omega, by rw [codes_len, List.length_set]; omega, fun c h => ?_, ?_⟩ (p3.up (by omega))
    · rw [codes_list] at h
      rcases List.mem_or_eq_of_mem_set h with h | h
      · exact hc c h
      · exact .inl h
    · rw [codes_list]
      exact List.mem_set (by omega) _

/-! the menu of odd things -/
def oddL : List D := [.non, .bl true, .bl false, .int 0, .int 1, .int (-1), .int 12, .int 13, .int (10 ^ 60), .int (10 ^ 60 + 1), .str "", .str "a", .str "A", .str "x", .str "-", .str "l", .str "abcdefghi",
  .str "a b", .tup [], .lst [], .dct [], .tup [.str "a"], .tup [.str "a", .str "x"], .lst [.str "a", .str "x"], .tup [.str "wait", .str "a", .str "b", .int 1], .dct [(.inr "a", .str "b")], .tup [.non], .tup [.tup []]]
def sp__law_odd : DSp := fun ds M _ k => ds.length = 1 ∧ ∃ p n es, ds = [.obj p] ∧ M p = some (.dct es) ∧ penD n es ∧ n < 900000 ∧ ∀ d es', d ∈ oddL → penD (n + 1) es' → k d (updM M p (.dct es'))
theorem ok__law_odd (T : Tx K mg) : FnG P w K mg base CX0 3 T.f__law_odd T.e__law_odd ["_law_pen_here"] (rSp K sp__law_odd) := by
  refine fnT T.d__law_odd.fn sc__law_odd (fun ds M x k h => h.1) (by decide) (fun cdv A outer s H E rm => ?_) (fun ds M x k h => h)
  refine ⟨_, (yss_cons (ys_set (i := 1) sc__law_odd.nd rfl (by first | exact Or.inl rfl | exact Or.inr rfl) (xl_frz (xl_lst (xa_cons xnon (xa_cons xbl (xa_cons xbl (xa_cons xint (xa_cons xint (xa_cons (xe_neg xint) (xa_cons xint (xa_cons xint (xa_cons (xe_op op_pow l_intD xint xint) (xa_cons (xe_op op_addD l_addD (xe_op op_pow l_intD xint xint) xint) (xa_cons xstr (xa_cons xstr (xa_cons xstr (xa_cons xstr (xa_cons xstr (xa_cons xstr (xa_cons xstr xa_nil))))))))))))))))))))
      (yss_cons (ys_set (i := 1) sc__law_odd.nd rfl (by first | exact Or.inl rfl | exact Or.inr rfl) (xe_op op_addD l_addD (xv 1) (xl_frz (xl_lst (xa_cons xstr (xa_cons (xe_tup xa_nil) (xa_cons (xl_frz (xl_lst xa_nil)) (xa_cons xe_dict0F (xa_cons (xe_tup (xa_cons xstr xa_nil)) (xa_cons (xe_tup (xa_cons xstr (xa_cons xstr xa_nil))) (xa_cons (xl_frz (xl_lst (xa_cons xstr (xa_cons xstr xa_nil)))) (xa_cons (xe_tup (xa_cons xstr (xa_cons xstr (xa_cons xstr (xa_cons xint xa_nil))))) (xa_cons (xe_dictF (xps_cons xstr xps_nil) rfl rfl (by simp) (by decide) (by decide)) (xa_cons (xe_tup (xa_cons xnon xa_nil)) (xa_cons (xe_tup (xa_cons (xe_tup xa_nil) xa_nil)) xa_nil)))))))))))))))
      (yss_one (ys_ret (xcall (ok__law_pick T) (rm.mono (by decide)) (by rfl) T.d__law_pick.gl T.d__law_pick.fn.kp T.d__law_pick.bi pass0 (xa_cons (xv 0) (xa_cons (xv 1) xa_nil))))))), ?_⟩
  intro ds M k h
  obtain ⟨-, p, n, es, rfl, hM, hp, hn, hk⟩ := h
  rw [show start0 ["_law_pen_here", "_law_some"] [D.obj p] = [some (.obj p), none] from rfl]
  obtain ⟨M0, rfl⟩ : ∃ M0, M = updM M0 p (.dct es) := ⟨M, (updM_self hM).symm⟩
  simp only [updM_updM] at hk
  simp only [TV.wSeq, TV.wIf, TV.wOr, TV.wNot, TV.wAnd, TV.wAndV, TV.wOrV, TV.wNotV, TV.wIfE, TV.wTru, TV.wCB, TV.wCons, TV.wVar, TV.wC, TV.wNil, TV.wTest, TV.wChain, TV.wRet, TV.wRetN, TV.wNext, TV.wSet, TV.wDrop, TV.wFrz, TV.wMut, TV.wDisp, TV.wTup, TV.wOp, TV.wCall, TV.wDget, TV.wDput, TV.wFor, TV.wLc, TV.wiL, TV.wiT, TV.wiS, TV.wiR1, TV.wiR2, TV.wiEnumS, TV.wiEnum, TV.wgName, TV.wgTup, TV.wgCons, TV.wgNil, TV.wPar, TV.wPar3, TV.wAsg, TV.wUn, TV.wBM, TV.wApp, TV.wSetI, TV.wListC, TV.wSlL, TV.wSlS, TV.wSlT, TV.wNo, TV.wPart, TV.wYes, TV.wRev, TV.wMelt, TV.wNever, TV.wipe0, TV.wDictM, TV.wDictF, TV.wDict0F, TV.wPairs, List.getElem?_cons_zero, List.getElem?_cons_succ, List.set_cons_zero, List.set_cons_succ, Option.some.injEq, exists_eq_left', exists_eq_left, List.cons.injEq, and_true, true_and, TV.D.str.injEq, TV.D.int.injEq, TV.D.bl.injEq, TV.D.lst.injEq, TV.D.tup.injEq, TV.D.obj.injEq, List.map_cons, List.map_nil, TV.cmpD, TV.subD, TV.intD, TV.inSD, TV.ninSD, TV.isND, TV.notND, TV.isBD, TV.divmodC, TV.absC, isiC', TV.len_str, TV.len_lst, TV.len_tup, TV.tru_bl, TV.tru_int, TV.tru_str, TV.tru_lst, TV.tru_tup, TV.add_int, TV.add_str, TV.add_lst, TV.add_tup, TV.mul_int, TV.mul_str, TV.ix_str, TV.ix_lst, TV.ix_tup, TV.count_str, TV.eq_str, TV.ne_str, TV.eq_int, TV.ne_int, TV.eq_lst, TV.ne_lst, TV.sgx, TV.vw_non, TV.vw_bl, TV.vw_int, TV.vw_str, TV.vw_tup, TV.vw_lst, TV.vw_fro, TV.vw_dct, TV.key_str, TV.key_int, false_or, or_false, List.length_nil, TV.ty_non, TV.ty_bl, TV.ty_int, TV.ty_str, TV.ty_tup, TV.ty_lst, TV.ty_dct, TV.tn_str, TV.tn_int, TV.tn_bool, TV.tn_list, TV.tn_tuple, TV.tn_dict, TV.isT, String.reduceBEq, Bool.and_false, Bool.or_false, Bool.false_and, Bool.and_true, Bool.true_or, Bool.or_true, and_assoc, TV.D.ty.injEq, reduceCtorEq, exists_const, exists_and_left, exists_and_right, if_true, if_false, Bool.not_true, Bool.not_false, Bool.false_eq_true, reduceIte]
  have c60 : CPow 10 60 := ⟨by decide, by decide, by decide⟩
  refine ⟨c60, c60, by decide, by decide, by decide, by decide, by decide, by decide, by decide, by decide, by decide, by decide, by decide, by decide, ?_⟩
  exact use_pick (xs := oddL) hp (by omega) rfl (by decide) (by decide) hk
def sp__law_bent : DSp := fun ds M _ k => ds.length = 2 ∧ ∃ p z n es, ds = [.obj p, .str z] ∧ z.length ≤ 50000 ∧ lat z ∧ M p = some (.dct es) ∧ penD n es ∧ n < 900000 ∧ ∀ z' es', z'.length ≤ z.length + 8 → lat z' → penD (n + 4) es' → k (.str z') (updM M p (.dct es'))
def menu : Str := (" !\"#$&'()*+,-./0123456789:;<=>?@ABCDEFGHIJKLMNOPQRSTUVWXYZ[\\]^_`{|}~\n" : Str) ++ ("abcdefghijklmnopqrstuvwxyz" : Str)
theorem ok__law_bent (T : Tx K mg) : FnG P w K mg base CX0 4 T.f__law_bent T.e__law_bent ["_law_pen_here", "_law_thing"] (rSp K sp__law_bent) := by
  refine fnT T.d__law_bent.fn sc__law_bent (fun ds M x k h => h.1) (by decide) (fun cdv A outer s H E rm => ?_) (fun ds M x k h => h)
  refine ⟨_, (yss_cons (ys_set (i := 2) sc__law_bent.nd rfl (by first | exact Or.inl rfl | exact Or.inr rfl) (xcall (ok__law_draw T) (rm.mono (by decide)) (by rfl) T.d__law_draw.gl T.d__law_draw.fn.kp T.d__law_draw.bi pass0 (xa_cons (xv 0) (xa_cons xint xa_nil))))
      (yss_cons (ys_if (xt_tru (xe_callB call_isi l_isi (by rfl) T.m_isinstance (by decide +kernel) (xa_cons (xv 1) (xa_cons (xbltn (v := .ty "str") (fun _ => .ty) (by rfl) T.m_str (by decide +kernel) rfl) xa_nil)))) (yss_cons (ys_set (i := 3) sc__law_bent.nd rfl (by first | exact Or.inl rfl | exact Or.inr rfl) xstr)
      (yss_cons (ys_set (i := 3) sc__law_bent.nd rfl (by first | exact Or.inl rfl | exact Or.inr rfl) (xe_op op_addD l_addD (xv 3) xstr))
      (yss_cons (ys_par (i := 4) (j := 5) rfl sc__law_bent.nd rfl rfl (by decide) rfl rfl (xa_cons (xcall (ok__law_draw T) (rm.mono (by decide)) (by rfl) T.d__law_draw.gl T.d__law_draw.fn.kp T.d__law_draw.bi pass0 (xa_cons (xv 0) (xa_cons (xe_op op_addD l_addD (xe_callB call_lenD' l_lenC (by rfl) T.m_len (by decide +kernel) (xa_cons (xv 1) xa_nil)) xint) xa_nil))) (xa_cons (xcall (ok__law_pick T) (rm.mono (by decide)) (by rfl) T.d__law_pick.gl T.d__law_pick.fn.kp T.d__law_pick.bi pass0 (xa_cons (xv 0) (xa_cons (xv 3) xa_nil))) xa_nil)) (by rfl))
      (yss_cons (ys_set (i := 6) sc__law_bent.nd rfl (by first | exact Or.inl rfl | exact Or.inr rfl) (xl_frz (xl_lst (xa_cons (xe_op op_addD l_addD (xe_op op_addD l_addD (xe_sliceS (xv 1) xo_none (xo_some (xv 4))) (xv 5)) (xe_sliceS (xv 1) (xo_some (xv 4)) xo_none)) (xa_cons (xe_op op_addD l_addD (xe_sliceS (xv 1) xo_none (xo_some (xv 4))) (xe_sliceS (xv 1) (xo_some (xe_op op_addD l_addD (xv 4) xint)) xo_none)) (xa_cons (xe_op op_addD l_addD (xe_op op_addD l_addD (xe_sliceS (xv 1) xo_none (xo_some (xv 4))) (xv 5)) (xe_sliceS (xv 1) (xo_some (xe_op op_addD l_addD (xv 4) xint)) xo_none)) xa_nil))))))
      (yss_one (ys_ret (xe_ix (xe_op op_addD l_addD (xv 6) (xl_frz (xl_lst (xa_cons (xe_op op_addD l_addD (xv 1) (xe_sliceS xstr (xo_some (xcall (ok__law_draw T) (rm.mono (by decide)) (by rfl) T.d__law_draw.gl T.d__law_draw.fn.kp T.d__law_draw.bi pass0 (xa_cons (xv 0) (xa_cons xint xa_nil)))) xo_none)) xa_nil)))) (xe_op op_mod l_intD (xv 2) xint) (fun _ _ => rfl)))))))) yss_nil)
      yss_never)), ?_⟩
  intro ds M k h
  obtain ⟨-, p, z, n, es, rfl, hz, hlat, hM, hp, hn, hk⟩ := h
  rw [show start0 ["_law_pen_here", "_law_thing", "_law_way", "_law_signs", "_law_at", "_law_sign", "_law_some", "_law_row"] [D.obj p, D.str z] = [some (.obj p), some (.str z), none, none, none, none, none, none] from rfl]
  obtain ⟨M0, rfl⟩ : ∃ M0, M = updM M0 p (.dct es) := ⟨M, (updM_self hM).symm⟩
  simp only [updM_updM] at hk
  simp only [TV.wSeq, TV.wIf, TV.wOr, TV.wNot, TV.wAnd, TV.wAndV, TV.wOrV, TV.wNotV, TV.wIfE, TV.wTru, TV.wCB, TV.wCons, TV.wVar, TV.wC, TV.wNil, TV.wTest, TV.wChain, TV.wRet, TV.wRetN, TV.wNext, TV.wSet, TV.wDrop, TV.wFrz, TV.wMut, TV.wDisp, TV.wTup, TV.wOp, TV.wCall, TV.wDget, TV.wDput, TV.wFor, TV.wLc, TV.wiL, TV.wiT, TV.wiS, TV.wiR1, TV.wiR2, TV.wiEnumS, TV.wiEnum, TV.wgName, TV.wgTup, TV.wgCons, TV.wgNil, TV.wPar, TV.wPar3, TV.wAsg, TV.wUn, TV.wBM, TV.wApp, TV.wSetI, TV.wListC, TV.wSlL, TV.wSlS, TV.wSlT, TV.wNo, TV.wPart, TV.wYes, TV.wRev, TV.wMelt, TV.wNever, TV.wipe0, TV.wDictM, TV.wDictF, TV.wDict0F, TV.wPairs, List.getElem?_cons_zero, List.getElem?_cons_succ, List.set_cons_zero, List.set_cons_succ, Option.some.injEq, exists_eq_left', exists_eq_left, List.cons.injEq, and_true, true_and, TV.D.str.injEq, TV.D.int.injEq, TV.D.bl.injEq, TV.D.lst.injEq, TV.D.tup.injEq, TV.D.obj.injEq, List.map_cons, List.map_nil, TV.cmpD, TV.subD, TV.intD, TV.inSD, TV.ninSD, TV.isND, TV.notND, TV.isBD, TV.divmodC, TV.absC, isiC', TV.len_str, TV.len_lst, TV.len_tup, TV.tru_bl, TV.tru_int, TV.tru_str, TV.tru_lst, TV.tru_tup, TV.add_int, TV.add_str, TV.add_lst, TV.add_tup, TV.mul_int, TV.mul_str, TV.ix_str, TV.ix_lst, TV.ix_tup, TV.count_str, TV.eq_str, TV.ne_str, TV.eq_int, TV.ne_int, TV.eq_lst, TV.ne_lst, TV.sgx, TV.vw_non, TV.vw_bl, TV.vw_int, TV.vw_str, TV.vw_tup, TV.vw_lst, TV.vw_fro, TV.vw_dct, TV.key_str, TV.key_int, false_or, or_false, List.length_nil, TV.ty_non, TV.ty_bl, TV.ty_int, TV.ty_str, TV.ty_tup, TV.ty_lst, TV.ty_dct, TV.tn_str, TV.tn_int, TV.tn_bool, TV.tn_list, TV.tn_tuple, TV.tn_dict, TV.isT, String.reduceBEq, Bool.and_false, Bool.or_false, Bool.false_and, Bool.and_true, Bool.true_or, Bool.or_true, and_assoc, TV.D.ty.injEq, reduceCtorEq, exists_const, exists_and_left, exists_and_right, if_true, if_false, Bool.not_true, Bool.not_false, Bool.false_eq_true, reduceIte]
  refine use_draw hp (by omega) (by decide) (small_lt (by decide)) fun way es1 w0 w1 p1 => ?_
  simp only [TV.wSeq, TV.wIf, TV.wOr, TV.wNot, TV.wAnd, TV.wAndV, TV.wOrV, TV.wNotV, TV.wIfE, TV.wTru, TV.wCB, TV.wCons, TV.wVar, TV.wC, TV.wNil, TV.wTest, TV.wChain, TV.wRet, TV.wRetN, TV.wNext, TV.wSet, TV.wDrop, TV.wFrz, TV.wMut, TV.wDisp, TV.wTup, TV.wOp, TV.wCall, TV.wDget, TV.wDput, TV.wFor, TV.wLc, TV.wiL, TV.wiT, TV.wiS, TV.wiR1, TV.wiR2, TV.wiEnumS, TV.wiEnum, TV.wgName, TV.wgTup, TV.wgCons, TV.wgNil, TV.wPar, TV.wPar3, TV.wAsg, TV.wUn, TV.wBM, TV.wApp, TV.wSetI, TV.wListC, TV.wSlL, TV.wSlS, TV.wSlT, TV.wNo, TV.wPart, TV.wYes, TV.wRev, TV.wMelt, TV.wNever, TV.wipe0, TV.wDictM, TV.wDictF, TV.wDict0F, TV.wPairs, List.getElem?_cons_zero, List.getElem?_cons_succ, List.set_cons_zero, List.set_cons_succ, Option.some.injEq, exists_eq_left', exists_eq_left, List.cons.injEq, and_true, true_and, TV.D.str.injEq, TV.D.int.injEq, TV.D.bl.injEq, TV.D.lst.injEq, TV.D.tup.injEq, TV.D.obj.injEq, List.map_cons, List.map_nil, TV.cmpD, TV.subD, TV.intD, TV.inSD, TV.ninSD, TV.isND, TV.notND, TV.isBD, TV.divmodC, TV.absC, isiC', TV.len_str, TV.len_lst, TV.len_tup, TV.tru_bl, TV.tru_int, TV.tru_str, TV.tru_lst, TV.tru_tup, TV.add_int, TV.add_str, TV.add_lst, TV.add_tup, TV.mul_int, TV.mul_str, TV.ix_str, TV.ix_lst, TV.ix_tup, TV.count_str, TV.eq_str, TV.ne_str, TV.eq_int, TV.ne_int, TV.eq_lst, TV.ne_lst, TV.sgx, TV.vw_non, TV.vw_bl, TV.vw_int, TV.vw_str, TV.vw_tup, TV.vw_lst, TV.vw_fro, TV.vw_dct, TV.key_str, TV.key_int, false_or, or_false, List.length_nil, TV.ty_non, TV.ty_bl, TV.ty_int, TV.ty_str, TV.ty_tup, TV.ty_lst, TV.ty_dct, TV.tn_str, TV.tn_int, TV.tn_bool, TV.tn_list, TV.tn_tuple, TV.tn_dict, TV.isT, String.reduceBEq, Bool.and_false, Bool.or_false, Bool.false_and, Bool.and_true, Bool.true_or, Bool.or_true, and_assoc, TV.D.ty.injEq, reduceCtorEq, exists_const, exists_and_left, exists_and_right, if_true, if_false, Bool.not_true, Bool.not_false, Bool.false_eq_true, reduceIte]
  have hmenu : ∀ c ∈ menu.cps.toList, c < 256 := by decide +kernel
  have hml : menu.length ≤ 100000 ∧ 1 ≤ menu.length := by decide +kernel
  refine ⟨by decide +kernel, by omega, ?_⟩
  refine use_draw p1 (by omega) (by omega) (small_lt (by omega)) fun at' es2 a0 a1 p2 => ?_
  refine use_pick (xs := TV.signs menu) p2 (by omega) (items_str hml.1) (by rw [signs_len]; exact hml.2) (by rw [signs_len]; exact hml.1) fun d es3 hd p3 => ?_
  obtain ⟨c, hc, rfl⟩ := mem_signs hd
  have hc := hmenu c hc
  simp only [TV.wSeq, TV.wIf, TV.wOr, TV.wNot, TV.wAnd, TV.wAndV, TV.wOrV, TV.wNotV, TV.wIfE, TV.wTru, TV.wCB, TV.wCons, TV.wVar, TV.wC, TV.wNil, TV.wTest, TV.wChain, TV.wRet, TV.wRetN, TV.wNext, TV.wSet, TV.wDrop, TV.wFrz, TV.wMut, TV.wDisp, TV.wTup, TV.wOp, TV.wCall, TV.wDget, TV.wDput, TV.wFor, TV.wLc, TV.wiL, TV.wiT, TV.wiS, TV.wiR1, TV.wiR2, TV.wiEnumS, TV.wiEnum, TV.wgName, TV.wgTup, TV.wgCons, TV.wgNil, TV.wPar, TV.wPar3, TV.wAsg, TV.wUn, TV.wBM, TV.wApp, TV.wSetI, TV.wListC, TV.wSlL, TV.wSlS, TV.wSlT, TV.wNo, TV.wPart, TV.wYes, TV.wRev, TV.wMelt, TV.wNever, TV.wipe0, TV.wDictM, TV.wDictF, TV.wDict0F, TV.wPairs, List.getElem?_cons_zero, List.getElem?_cons_succ, List.set_cons_zero, List.set_cons_succ, Option.some.injEq, exists_eq_left', exists_eq_left, List.cons.injEq, and_true, true_and, TV.D.str.injEq, TV.D.int.injEq, TV.D.bl.injEq, TV.D.lst.injEq, TV.D.tup.injEq, TV.D.obj.injEq, List.map_cons, List.map_nil, TV.cmpD, TV.subD, TV.intD, TV.inSD, TV.ninSD, TV.isND, TV.notND, TV.isBD, TV.divmodC, TV.absC, isiC', TV.len_str, TV.len_lst, TV.len_tup, TV.tru_bl, TV.tru_int, TV.tru_str, TV.tru_lst, TV.tru_tup, TV.add_int, TV.add_str, TV.add_lst, TV.add_tup, TV.mul_int, TV.mul_str, TV.ix_str, TV.ix_lst, TV.ix_tup, TV.count_str, TV.eq_str, TV.ne_str, TV.eq_int, TV.ne_int, TV.eq_lst, TV.ne_lst, TV.sgx, TV.vw_non, TV.vw_bl, TV.vw_int, TV.vw_str, TV.vw_tup, TV.vw_lst, TV.vw_fro, TV.vw_dct, TV.key_str, TV.key_int, false_or, or_false, List.length_nil, TV.ty_non, TV.ty_bl, TV.ty_int, TV.ty_str, TV.ty_tup, TV.ty_lst, TV.ty_dct, TV.tn_str, TV.tn_int, TV.tn_bool, TV.tn_list, TV.tn_tuple, TV.tn_dict, TV.isT, String.reduceBEq, Bool.and_false, Bool.or_false, Bool.false_and, Bool.and_true, Bool.true_or, Bool.or_true, and_assoc, TV.D.ty.injEq, reduceCtorEq, exists_const, exists_and_left, exists_and_right, if_true, if_false, Bool.not_true, Bool.not_false, Bool.false_eq_true, reduceIte]
  have l1 : (cutS z none (some at')).length ≤ z.length := by rw [← str_len, cut_to a0, List.length_take, str_len]; omega
  have l2 : (cutS z (some at') none).length ≤ z.length - at'.toNat := by rw [← str_len, cut_from a0, List.length_drop, str_len]; omega
  have l3 : (cutS z (some (at' + 1)) none).length ≤ z.length - at'.toNat := by rw [← str_len, cut_from (by omega), List.length_drop, str_len]; omega
  have l0 : (cutS z none (some at')).length ≤ at'.toNat := by rw [← str_len, cut_to a0, List.length_take]; omega
  have l4 : (⟨#[c]⟩ : Str).length = 1 := rfl
  have l5 : ("abcdefgh" : Str).length = 8 := by decide +kernel
  have m1 : lat (cutS z none (some at')) := fun b hb => by rw [cut_to a0] at hb; exact hlat b (List.mem_of_mem_take hb)
  have m2 : lat (cutS z (some at') none) := fun b hb => by rw [cut_from a0] at hb; exact hlat b (List.mem_of_mem_drop hb)
  have m3 : lat (cutS z (some (at' + 1)) none) := fun b hb => by rw [cut_from (by omega)] at hb; exact hlat b (List.mem_of_mem_drop hb)
  have m4 : lat ⟨#[c]⟩ := fun b hb => by
    have : b = c := List.mem_singleton.mp hb
    omega
  have m5 : lat "abcdefgh" := by unfold lat; decide +kernel
  have ma : ∀ {a b : Str}, lat a → lat b → lat (a ++ b) := fun ha hb c hc => by
    rw [app_list] at hc
    rcases List.mem_append.mp hc with h | h
    · exact ha c h
    · exact hb c h
  have q1 : (cutS z none (some at') ++ (⟨#[c]⟩ : Str)).length = (cutS z none (some at')).length + 1 := by rw [len_app, l4]
  refine ⟨by omega, by omega, by omega, by omega, by omega, by omega, by omega, by omega, by omega, by omega, by omega, (show 3 ≤ 100000 by decide), ?_⟩
  refine use_draw p3 (by omega) (by decide) (small_lt (by decide)) fun cut es4 c0 c1 p4 => ?_
  simp only [TV.wSeq, TV.wIf, TV.wOr, TV.wNot, TV.wAnd, TV.wAndV, TV.wOrV, TV.wNotV, TV.wIfE, TV.wTru, TV.wCB, TV.wCons, TV.wVar, TV.wC, TV.wNil, TV.wTest, TV.wChain, TV.wRet, TV.wRetN, TV.wNext, TV.wSet, TV.wDrop, TV.wFrz, TV.wMut, TV.wDisp, TV.wTup, TV.wOp, TV.wCall, TV.wDget, TV.wDput, TV.wFor, TV.wLc, TV.wiL, TV.wiT, TV.wiS, TV.wiR1, TV.wiR2, TV.wiEnumS, TV.wiEnum, TV.wgName, TV.wgTup, TV.wgCons, TV.wgNil, TV.wPar, TV.wPar3, TV.wAsg, TV.wUn, TV.wBM, TV.wApp, TV.wSetI, TV.wListC, TV.wSlL, TV.wSlS, TV.wSlT, TV.wNo, TV.wPart, TV.wYes, TV.wRev, TV.wMelt, TV.wNever, TV.wipe0, TV.wDictM, TV.wDictF, TV.wDict0F, TV.wPairs, List.getElem?_cons_zero, List.getElem?_cons_succ, List.set_cons_zero, List.set_cons_succ, Option.some.injEq, exists_eq_left', exists_eq_left, List.cons.injEq, and_true, true_and, TV.D.str.injEq, TV.D.int.injEq, TV.D.bl.injEq, TV.D.lst.injEq, TV.D.tup.injEq, TV.D.obj.injEq, List.map_cons, List.map_nil, TV.cmpD, TV.subD, TV.intD, TV.inSD, TV.ninSD, TV.isND, TV.notND, TV.isBD, TV.divmodC, TV.absC, isiC', TV.len_str, TV.len_lst, TV.len_tup, TV.tru_bl, TV.tru_int, TV.tru_str, TV.tru_lst, TV.tru_tup, TV.add_int, TV.add_str, TV.add_lst, TV.add_tup, TV.mul_int, TV.mul_str, TV.ix_str, TV.ix_lst, TV.ix_tup, TV.count_str, TV.eq_str, TV.ne_str, TV.eq_int, TV.ne_int, TV.eq_lst, TV.ne_lst, TV.sgx, TV.vw_non, TV.vw_bl, TV.vw_int, TV.vw_str, TV.vw_tup, TV.vw_lst, TV.vw_fro, TV.vw_dct, TV.key_str, TV.key_int, false_or, or_false, List.length_nil, TV.ty_non, TV.ty_bl, TV.ty_int, TV.ty_str, TV.ty_tup, TV.ty_lst, TV.ty_dct, TV.tn_str, TV.tn_int, TV.tn_bool, TV.tn_list, TV.tn_tuple, TV.tn_dict, TV.isT, String.reduceBEq, Bool.and_false, Bool.or_false, Bool.false_and, Bool.and_true, Bool.true_or, Bool.or_true, and_assoc, TV.D.ty.injEq, reduceCtorEq, exists_const, exists_and_left, exists_and_right, if_true, if_false, Bool.not_true, Bool.not_false, Bool.false_eq_true, reduceIte]
  have l6 : (cutS "abcdefgh" (some cut) none).length ≤ 8 := by rw [← str_len, cut_from c0, List.length_drop, str_len, l5]; omega
  have m6 : lat (cutS "abcdefgh" (some cut) none) := fun b hb => by rw [cut_from c0] at hb; exact m5 b (List.mem_of_mem_drop hb)
  refine ⟨by omega, by omega, (show 1 ≤ 100000 by decide), (show 3 + 1 ≤ 100000 by decide), by decide, ?_⟩
  obtain ⟨d, e1, e2⟩ := atI_in (l := ([D.str (cutS z none (some at') ++ ⟨#[c]⟩ ++ cutS z (some at') none), D.str (cutS z none (some at') ++ cutS z (some (at' + 1)) none), D.str (cutS z none (some at') ++ ⟨#[c]⟩ ++ cutS z (some (at' + 1)) none)] ++ [D.str (z ++ cutS "abcdefgh" (some cut) none)])) (i := way % 4) (Int.emod_nonneg _ (by decide)) (Int.emod_lt_of_pos _ (by decide))
  refine ⟨d, e2, ?_⟩
  have hd := List.mem_of_getElem? e1
  simp only [List.cons_append, List.nil_append, List.mem_cons, List.not_mem_nil, or_false] at hd
  rcases hd with h | h | h | h <;> subst h
  · exact hk _ es4 (by rw [len_app, len_app]; omega) (ma (ma m1 m4) m2) p4
  · exact hk _ es4 (by rw [len_app]; omega) (ma m1 m3) p4
  · exact hk _ es4 (by rw [len_app, len_app]; omega) (ma (ma m1 m4) m3) p4
  · exact hk _ es4 (by rw [len_app]; omega) (ma hlat m6) p4
end
end K01

set_option Elab.async false
set_option linter.all false
set_option maxRecDepth 100000
set_option maxHeartbeats 2000000
namespace K01
open PySem PySem.Spec PyProof.Rows L2 TV
section
variable {P : Program} {w : World} {K : PySem.W.Frag} {mg : Str → Option Value} {base : Heap}
/-! ### the finitely many rhythms -/
def rhyN : Nat → List (List Nat)
  | 0 => [[]]
  | n + 1 => (rhyN n).flatMap fun l => [120 :: l, 45 :: l]
def rhyL : List (List Nat) := ((List.range 6).flatMap fun n => rhyN (n + 1)).filter fun l => l.contains 120
theorem rhyN_in : ∀ l : List Nat, (∀ c ∈ l, c = 120 ∨ c = 45) → l ∈ rhyN l.length
  | [], _ => by simp [rhyN]
  | c :: l, h => by
    have := rhyN_in l fun b hb => h b (List.mem_cons_of_mem _ hb)
    rw [List.length_cons, rhyN, List.mem_flatMap]
    refine ⟨l, this, ?_⟩
    rcases h c List.mem_cons_self with e | e <;> subst e <;> simp
theorem okRh_in {z : Str} (h : okRh z) : ∃ l ∈ rhyL, z = ofCodes l := by
  obtain ⟨h1, h2, h3, h4⟩ := h
  refine ⟨z.cps.toList, ?_, rfl⟩
  unfold rhyL
  rw [List.mem_filter, List.mem_flatMap]
  rw [← str_len] at h1 h2
  refine ⟨⟨z.cps.toList.length - 1, List.mem_range.mpr (by omega), ?_⟩, by simpa using h4⟩
  have := rhyN_in _ h3
  rwa [show z.cps.toList.length - 1 + 1 = z.cps.toList.length by omega]
def tk (z : Str) : List Int := ((List.range 40).filter fun (i : Nat) => sg z ((i : Int) % z.length)).map fun (i : Nat) => 1 + (i : Int)
theorem fact1 : ∀ l ∈ rhyL, ∀ i ∈ List.range 40, takesB (ofCodes l) (1 + (i : Int)) = memD (.int (1 + (i : Int))) ((tk (ofCodes l)).map D.int) := by decide +kernel
theorem fact2 : ∀ l ∈ rhyL, ∀ i ∈ List.range 40, timesI (ofCodes l) (1 + (i : Int)) = (((tk (ofCodes l)).filter fun j => decide (j ≤ 1 + (i : Int))).length : Int) := by decide +kernel
theorem fact3 : ∀ l ∈ rhyL, ∀ i ∈ List.range 40, i < (tk (ofCodes l)).length → some (beatI (ofCodes l) i) = (tk (ofCodes l))[i]? := by decide +kernel
theorem fact4 : ∀ l ∈ rhyL, 0 < (bts (ofCodes l)).length ∧ ((bts (ofCodes l)).length : Int) = cnt (ofCodes l) ∧ cnt (ofCodes l) ≤ 6 ∧ (tk (ofCodes l)).length ≤ 40 := by decide +kernel
def b0 (z : Str) (rest : Int) : Int := if cnt (cutS z none (some rest)) < cnt z then ((bts z)[(cnt (cutS z none (some rest))).toNat]?).getD 0 else z.length + ((bts z)[0]?).getD 0
theorem fact5 : ∀ l ∈ rhyL, ∀ i ∈ List.range 6, i < l.length → (i : Int) < b0 (ofCodes l) i ∧ sg (ofCodes l) ((b0 (ofCodes l) i - 1) % (ofCodes l).length) = true ∧
    b0 (ofCodes l) i / (ofCodes l).length * cnt (ofCodes l) + cnt (cutS (ofCodes l) none (some (b0 (ofCodes l) i % (ofCodes l).length))) = cnt (cutS (ofCodes l) none (some (i : Int))) + 1 ∧
    0 ≤ cnt (cutS (ofCodes l) none (some (i : Int))) ∧ cnt (cutS (ofCodes l) none (some (i : Int))) ≤ cnt (ofCodes l) ∧ b0 (ofCodes l) i ≤ 12 := by decide +kernel
end
end K01

set_option Elab.async false
set_option linter.all false
set_option maxRecDepth 100000
set_option maxHeartbeats 2000000
namespace K01
open PySem PySem.Spec PyProof.Rows L2 TV
section
variable {P : Program} {w : World} {K : PySem.W.Frag} {mg : Str → Option Value} {base : Heap}
theorem strs_py : ∀ cs : List Nat, toPys (cs.map fun c => D.str ⟨#[c]⟩) = some (cs.map fun c => PyData.str ⟨#[c]⟩)
  | [] => rfl
  | c :: cs => by simp [toPys, toPy, strs_py cs]
theorem strs_lay : ∀ cs : List Nat, (∀ c ∈ cs, c < 1114112) → SeqAt.shaped (PyData.list (cs.map fun c => PyData.str ⟨#[c]⟩)) = true := by
  intro cs h
  have h1 : ∀ cs : List Nat, (∀ c ∈ cs, c < 1114112) → PyData.canLayAll0 (cs.map fun c => PyData.str ⟨#[c]⟩) = true := fun cs => by
    induction cs with
    | nil => intro _; rfl
    | cons c cs ih =>
      intro h
      have e : PyData.strOk ⟨#[c]⟩ = true := by
        have := h c List.mem_cons_self
        simp [PyData.strOk, this]
      simp [PyData.canLayAll0, PyData.canLay0, e, ih fun b hb => h b (List.mem_cons_of_mem _ hb)]
  have h2 : ∀ cs : List Nat, PyData.depthAll (cs.map fun c => PyData.str ⟨#[c]⟩) = 0 := fun cs => by
    induction cs with
    | nil => rfl
    | cons c cs ih => simp [PyData.depthAll, PyData.depth, ih]
  simp [SeqAt.shaped, PyData.canLay0, PyData.depth, h1 cs h, h2]
theorem eqs_nil (cs : List Nat) : PyData.eqv (.list (cs.map fun c => PyData.str ⟨#[c]⟩)) (.list []) = cs.isEmpty := by
  cases cs <;> simp [PyData.eqv, PyData.eqvAll]
theorem eq_nilS {M : MS} {cs : List Nat} {q} (h : ∀ c ∈ cs, c < 1114112) (hq : q (.bl cs.isEmpty)) : eqD M (.lst (cs.map fun c => D.str ⟨#[c]⟩)) (.lst []) q :=
  ⟨_, _, by show toPy (.lst _) = _; simp [toPy, strs_py], rfl, strs_lay cs h, strs_lay [] (by simp), by
    show q (.bl (PyData.eqv (.list _) (.list []))); rw [eqs_nil]; exact hq⟩
/-- a thing that is looked at: of a kind; a text is short, of common signs -/
def saneL (d : D) : Prop := (∃ t, tyD d = some t) ∧ ∀ s, d = .str s → s.length ≤ 100000 ∧ lat s
theorem saneL.sane {d : D} (h : saneL d) : sane d := ⟨h.1, fun s e => (h.2 s e).1⟩
def sp__law_are_signs : DSp := fun ds M _ k => ds.length = 3 ∧ ∃ d signs most, ds = [d, .str signs, .int most] ∧ saneL d ∧ k (.bl (madeOf d signs most)) M
theorem ok__law_are_signs (T : Tx K mg) : FnG P w K mg base CX0 1 T.f__law_are_signs T.e__law_are_signs ["_law_thing", "_law_signs", "_law_most"] (rSp K sp__law_are_signs) := by
  refine fnT T.d__law_are_signs.fn sc__law_are_signs (fun ds M x k h => h.1) (by decide) (fun cdv A outer s H E rm => ?_) (fun ds M x k h => h)
  refine ⟨_, (yss_cons (ys_if (PW.pt (xw_or (xt_not (xt_tru (xe_callB call_isi l_isi (by rfl) T.m_isinstance (by decide +kernel) (xa_cons (xv 0) (xa_cons (xbltn (v := .ty "str") (fun _ => .ty) (by rfl) T.m_str (by decide +kernel) rfl) xa_nil))))) (xw_or1 (xt_not (xt_chain op_lt op_le l_cmpD l_cmpD xint (xe_callB call_lenD' l_lenC (by rfl) T.m_len (by decide +kernel) (xa_cons (xv 0) xa_nil)) (xv 2)))))) (yss_one (ys_ret xbl)) yss_nil)
      (yss_one (ys_ret (xe_cmp (op_eqE rm.u64) l_eqE (xl_frz (xl_lc (own := [("_law_sign", 3)]) (g := gName 3) rfl sc__law_are_signs.nd (xi_str (xv 0)) (blkOk_by (N := ["_law_thing", "_law_signs", "_law_most", "_law_sign"]) (sc := defScope s__law_are_signs) (by decide +kernel)) (tg_name (by decide)) (fun _ _ _ _ _ => pg_name (i := 3) sc__law_are_signs.nd rfl (Or.inl rfl)) (fun _ _ _ _ _ => xts_one (xt_cmp op_notIn_sign l_ninSD (xv 3) (xv 1) (by rfl))) (fun _ _ _ _ _ => (xv 3)))) (xl_frz (xl_lst xa_nil)) (nomark _))))), ?_⟩
  intro ds M k h
  obtain ⟨-, d, signs, most, rfl, ⟨⟨t, ht⟩, hs⟩, hk⟩ := h
  rw [show start0 ["_law_thing", "_law_signs", "_law_most", "_law_sign"] [d, D.str signs, D.int most] = [some d, some (.str signs), some (.int most), none] from rfl]
  cases d with
  | str z =>
    have hz := hs z rfl
    simp only [TV.wSeq, TV.wIf, TV.wOr, TV.wNot, TV.wAnd, TV.wAndV, TV.wOrV, TV.wNotV, TV.wIfE, TV.wTru, TV.wCB, TV.wCons, TV.wVar, TV.wC, TV.wNil, TV.wTest, TV.wChain, TV.wRet, TV.wRetN, TV.wNext, TV.wSet, TV.wDrop, TV.wFrz, TV.wMut, TV.wDisp, TV.wTup, TV.wOp, TV.wCall, TV.wDget, TV.wDput, TV.wFor, TV.wLc, TV.wiL, TV.wiT, TV.wiS, TV.wiR1, TV.wiR2, TV.wiEnumS, TV.wiEnum, TV.wgName, TV.wgTup, TV.wgCons, TV.wgNil, TV.wPar, TV.wPar3, TV.wAsg, TV.wUn, TV.wBM, TV.wApp, TV.wSetI, TV.wListC, TV.wSlL, TV.wSlS, TV.wSlT, TV.wNo, TV.wPart, TV.wYes, TV.wRev, TV.wMelt, TV.wNever, TV.wipe0, TV.wDictM, TV.wDictF, TV.wDict0F, TV.wPairs, List.getElem?_cons_zero, List.getElem?_cons_succ, List.set_cons_zero, List.set_cons_succ, Option.some.injEq, exists_eq_left', exists_eq_left, List.cons.injEq, and_true, true_and, TV.D.str.injEq, TV.D.int.injEq, TV.D.bl.injEq, TV.D.lst.injEq, TV.D.tup.injEq, TV.D.obj.injEq, List.map_cons, List.map_nil, TV.cmpD, TV.subD, TV.intD, TV.inSD, TV.ninSD, TV.isND, TV.notND, TV.isBD, TV.divmodC, TV.absC, isiC', TV.len_str, TV.len_lst, TV.len_tup, TV.tru_bl, TV.tru_int, TV.tru_str, TV.tru_lst, TV.tru_tup, TV.add_int, TV.add_str, TV.add_lst, TV.add_tup, TV.mul_int, TV.mul_str, TV.ix_str, TV.ix_lst, TV.ix_tup, TV.count_str, TV.eq_str, TV.ne_str, TV.eq_int, TV.ne_int, TV.eq_lst, TV.ne_lst, TV.sgx, TV.vw_non, TV.vw_bl, TV.vw_int, TV.vw_str, TV.vw_tup, TV.vw_lst, TV.vw_fro, TV.vw_dct, TV.key_str, TV.key_int, false_or, or_false, List.length_nil, TV.ty_non, TV.ty_bl, TV.ty_int, TV.ty_str, TV.ty_tup, TV.ty_lst, TV.ty_dct, TV.tn_str, TV.tn_int, TV.tn_bool, TV.tn_list, TV.tn_tuple, TV.tn_dict, TV.isT, String.reduceBEq, Bool.and_false, Bool.or_false, Bool.false_and, Bool.and_true, Bool.true_or, Bool.or_true, and_assoc, TV.D.ty.injEq, reduceCtorEq, exists_const, exists_and_left, exists_and_right, if_true, if_false, Bool.not_true, Bool.not_false, Bool.false_eq_true, reduceIte]
    refine ⟨hz.1, ?_⟩
    by_cases h1 : (0 : Int) < (z.length : Int)
    · have h1' : (1 : Int) ≤ (z.length : Int) := h1
      by_cases h2 : (z.length : Int) ≤ most
      · simp only [h1, h2, decide_true, Bool.not_true, if_true, Bool.false_eq_true, if_false]
        refine ⟨by rw [signs_len]; exact hz.1, fun i acc M' => M' = M ∧ acc = fmD (fun c => !decide (c ∈ signs.cps.toList)) (fun c => D.str ⟨#[c]⟩) (z.cps.toList.take i), ⟨rfl, rfl⟩, fun i d acc M' hi ⟨hM, ha⟩ => ?_, fun acc M' ⟨hM, ha⟩ => ?_⟩
        · obtain ⟨c, hc, rfl⟩ := signs_get hi
          subst hM ha
          refine ⟨c, rfl, ?_⟩
          by_cases e : c ∈ signs.cps.toList <;> simp only [e, decide_true, decide_false, Bool.not_true, Bool.not_false, Bool.false_eq_true, if_true, if_false]
          · exact ⟨trivial, by rw [fm_step hc]; simp [e]⟩
          · exact ⟨trivial, by rw [fm_step hc]; simp [e]⟩
        · subst hM
          rw [signs_len, List.take_of_length_le (by rw [str_len]; exact Nat.le_refl _)] at ha
          subst ha
          refine ⟨by omega, eq_nilS (cs := z.cps.toList.filter fun c => !decide (c ∈ signs.cps.toList)) (fun c hc => ?_) ?_⟩
          · have := hz.2 c (List.mem_filter.mp hc).1; omega
          · have e : (z.cps.toList.filter fun c => !decide (c ∈ signs.cps.toList)).isEmpty = madeOf (.str z) signs most := by
              simp only [madeOf, h1', h2, decide_true, Bool.true_and]
              rw [Bool.eq_iff_iff, List.isEmpty_iff, List.filter_eq_nil_iff, List.all_eq_true]
              simp
            rw [e]; exact hk
      · simpa [madeOf, h1, h2] using hk
    · have h1' : ¬ (1 : Int) ≤ (z.length : Int) := by omega
      rw [if_neg (by rw [decide_eq_false h1]; decide)]
      simpa [madeOf, h1'] using hk
  | _ =>
    simp only [TV.wSeq, TV.wIf, TV.wOr, TV.wNot, TV.wAnd, TV.wAndV, TV.wOrV, TV.wNotV, TV.wIfE, TV.wTru, TV.wCB, TV.wCons, TV.wVar, TV.wC, TV.wNil, TV.wTest, TV.wChain, TV.wRet, TV.wRetN, TV.wNext, TV.wSet, TV.wDrop, TV.wFrz, TV.wMut, TV.wDisp, TV.wTup, TV.wOp, TV.wCall, TV.wDget, TV.wDput, TV.wFor, TV.wLc, TV.wiL, TV.wiT, TV.wiS, TV.wiR1, TV.wiR2, TV.wiEnumS, TV.wiEnum, TV.wgName, TV.wgTup, TV.wgCons, TV.wgNil, TV.wPar, TV.wPar3, TV.wAsg, TV.wUn, TV.wBM, TV.wApp, TV.wSetI, TV.wListC, TV.wSlL, TV.wSlS, TV.wSlT, TV.wNo, TV.wPart, TV.wYes, TV.wRev, TV.wMelt, TV.wNever, TV.wipe0, TV.wDictM, TV.wDictF, TV.wDict0F, TV.wPairs, List.getElem?_cons_zero, List.getElem?_cons_succ, List.set_cons_zero, List.set_cons_succ, Option.some.injEq, exists_eq_left', exists_eq_left, List.cons.injEq, and_true, true_and, TV.D.str.injEq, TV.D.int.injEq, TV.D.bl.injEq, TV.D.lst.injEq, TV.D.tup.injEq, TV.D.obj.injEq, List.map_cons, List.map_nil, TV.cmpD, TV.subD, TV.intD, TV.inSD, TV.ninSD, TV.isND, TV.notND, TV.isBD, TV.divmodC, TV.absC, isiC', TV.len_str, TV.len_lst, TV.len_tup, TV.tru_bl, TV.tru_int, TV.tru_str, TV.tru_lst, TV.tru_tup, TV.add_int, TV.add_str, TV.add_lst, TV.add_tup, TV.mul_int, TV.mul_str, TV.ix_str, TV.ix_lst, TV.ix_tup, TV.count_str, TV.eq_str, TV.ne_str, TV.eq_int, TV.ne_int, TV.eq_lst, TV.ne_lst, TV.sgx, TV.vw_non, TV.vw_bl, TV.vw_int, TV.vw_str, TV.vw_tup, TV.vw_lst, TV.vw_fro, TV.vw_dct, TV.key_str, TV.key_int, false_or, or_false, List.length_nil, TV.ty_non, TV.ty_bl, TV.ty_int, TV.ty_str, TV.ty_tup, TV.ty_lst, TV.ty_dct, TV.tn_str, TV.tn_int, TV.tn_bool, TV.tn_list, TV.tn_tuple, TV.tn_dict, TV.isT, String.reduceBEq, Bool.and_false, Bool.or_false, Bool.false_and, Bool.and_true, Bool.true_or, Bool.or_true, and_assoc, TV.D.ty.injEq, reduceCtorEq, exists_const, exists_and_left, exists_and_right, if_true, if_false, Bool.not_true, Bool.not_false, Bool.false_eq_true, reduceIte]
    first | exact hk | (simp [tyD] at ht)
def sp__law_truths : DSp := fun ds M _ k => ds.length = 1 ∧ ∃ d, ds = [d] ∧ saneL d ∧ k (.lst [.bl (isNm d), .bl (isRh d)]) M
theorem ok__law_truths (T : Tx K mg) : FnG P w K mg base CX0 2 T.f__law_truths T.e__law_truths ["_law_thing"] (rSp K sp__law_truths) := by
  refine fnT T.d__law_truths.fn sc__law_truths (fun ds M x k h => h.1) (by decide) (fun cdv A outer s H E rm => ?_) (fun ds M x k h => h)
  refine ⟨_, (yss_cons (ys_set (i := 1) sc__law_truths.nd rfl (by first | exact Or.inl rfl | exact Or.inr rfl) xstr)
      (yss_one (ys_ret (xl_frz (xl_lst (xa_cons (xcall (ok__law_are_signs T) (rm.mono (by decide)) (by rfl) T.d__law_are_signs.gl T.d__law_are_signs.fn.kp T.d__law_are_signs.bi pass0 (xa_cons (xv 0) (xa_cons (xv 1) (xa_cons xint xa_nil)))) (xa_cons (xe_and (xcall (ok__law_are_signs T) (rm.mono (by decide)) (by rfl) T.d__law_are_signs.gl T.d__law_are_signs.fn.kp T.d__law_are_signs.bi pass0 (xa_cons (xv 0) (xa_cons xstr (xa_cons xint xa_nil)))) (xe_one (xe_cmp op_in_sign l_inSD xstr (xv 0) (by rfl)))) xa_nil))))))), ?_⟩
  intro ds M k h
  obtain ⟨-, d, rfl, hs, hk⟩ := h
  rw [show start0 ["_law_thing", "_law_letters"] [d] = [some d, none] from rfl]
  simp only [TV.wSeq, TV.wIf, TV.wOr, TV.wNot, TV.wAnd, TV.wAndV, TV.wOrV, TV.wNotV, TV.wIfE, TV.wTru, TV.wCB, TV.wCons, TV.wVar, TV.wC, TV.wNil, TV.wTest, TV.wChain, TV.wRet, TV.wRetN, TV.wNext, TV.wSet, TV.wDrop, TV.wFrz, TV.wMut, TV.wDisp, TV.wTup, TV.wOp, TV.wCall, TV.wDget, TV.wDput, TV.wFor, TV.wLc, TV.wiL, TV.wiT, TV.wiS, TV.wiR1, TV.wiR2, TV.wiEnumS, TV.wiEnum, TV.wgName, TV.wgTup, TV.wgCons, TV.wgNil, TV.wPar, TV.wPar3, TV.wAsg, TV.wUn, TV.wBM, TV.wApp, TV.wSetI, TV.wListC, TV.wSlL, TV.wSlS, TV.wSlT, TV.wNo, TV.wPart, TV.wYes, TV.wRev, TV.wMelt, TV.wNever, TV.wipe0, TV.wDictM, TV.wDictF, TV.wDict0F, TV.wPairs, List.getElem?_cons_zero, List.getElem?_cons_succ, List.set_cons_zero, List.set_cons_succ, Option.some.injEq, exists_eq_left', exists_eq_left, List.cons.injEq, and_true, true_and, TV.D.str.injEq, TV.D.int.injEq, TV.D.bl.injEq, TV.D.lst.injEq, TV.D.tup.injEq, TV.D.obj.injEq, List.map_cons, List.map_nil, TV.cmpD, TV.subD, TV.intD, TV.inSD, TV.ninSD, TV.isND, TV.notND, TV.isBD, TV.divmodC, TV.absC, isiC', TV.len_str, TV.len_lst, TV.len_tup, TV.tru_bl, TV.tru_int, TV.tru_str, TV.tru_lst, TV.tru_tup, TV.add_int, TV.add_str, TV.add_lst, TV.add_tup, TV.mul_int, TV.mul_str, TV.ix_str, TV.ix_lst, TV.ix_tup, TV.count_str, TV.eq_str, TV.ne_str, TV.eq_int, TV.ne_int, TV.eq_lst, TV.ne_lst, TV.sgx, TV.vw_non, TV.vw_bl, TV.vw_int, TV.vw_str, TV.vw_tup, TV.vw_lst, TV.vw_fro, TV.vw_dct, TV.key_str, TV.key_int, false_or, or_false, List.length_nil, TV.ty_non, TV.ty_bl, TV.ty_int, TV.ty_str, TV.ty_tup, TV.ty_lst, TV.ty_dct, TV.tn_str, TV.tn_int, TV.tn_bool, TV.tn_list, TV.tn_tuple, TV.tn_dict, TV.isT, String.reduceBEq, Bool.and_false, Bool.or_false, Bool.false_and, Bool.and_true, Bool.true_or, Bool.or_true, and_assoc, TV.D.ty.injEq, reduceCtorEq, exists_const, exists_and_left, exists_and_right, if_true, if_false, Bool.not_true, Bool.not_false, Bool.false_eq_true, reduceIte]
  refine ⟨rfl, d, _, _, rfl, hs, rfl, d, _, _, rfl, hs, _, rfl, ?_⟩
  unfold isRh at hk
  change k (.lst [.bl (madeOf d letters 8), _]) M at hk
  cases e : madeOf d "x-" 6 with
  | false => rw [e] at hk; exact ⟨(show 2 ≤ 100000 by decide), hk⟩
  | true =>
    rw [e, Bool.true_and] at hk
    rw [if_pos rfl]
    cases d with
    | str z => exact ⟨120, x_eq, z, rfl, (show 2 ≤ 100000 by decide), hk⟩
    | _ => cases e
def sp__law_is_number : DSp := fun ds M _ k => ds.length = 2 ∧ ∃ a b, ds = [.int a, .int b] ∧ k (.bl (decide (a = b))) M
theorem ok__law_is_number (T : Tx K mg) : FnG P w K mg base CX0 1 T.f__law_is_number T.e__law_is_number ["_law_told", "_law_due"] (rSp K sp__law_is_number) := by
  refine fnT T.d__law_is_number.fn sc__law_is_number (fun ds M x k h => h.1) (by decide) (fun cdv A outer s H E rm => ?_) (fun ds M x k h => h)
  refine ⟨_, (yss_one (ys_ret (xe_and (xe_callB call_isi l_isi (by rfl) T.m_isinstance (by decide +kernel) (xa_cons (xv 0) (xa_cons (xbltn (v := .ty "int") (fun _ => .ty) (by rfl) T.m_int (by decide +kernel) rfl) xa_nil))) (xe_and (xe_not (xe_callB call_isi l_isi (by rfl) T.m_isinstance (by decide +kernel) (xa_cons (xv 0) (xa_cons (xbltn (v := .ty "bool") (fun _ => .ty) (by rfl) T.m_bool (by decide +kernel) rfl) xa_nil)))) (xe_one (xe_cmp (op_eqE rm.u64) l_eqE (xv 0) (xv 1) (nomark _))))))), ?_⟩
  intro ds M k h
  obtain ⟨-, a, b, rfl, hk⟩ := h
  rw [show start0 ["_law_told", "_law_due"] [D.int a, D.int b] = [some (.int a), some (.int b)] from rfl]
  simp only [TV.wSeq, TV.wIf, TV.wOr, TV.wNot, TV.wAnd, TV.wAndV, TV.wOrV, TV.wNotV, TV.wIfE, TV.wTru, TV.wCB, TV.wCons, TV.wVar, TV.wC, TV.wNil, TV.wTest, TV.wChain, TV.wRet, TV.wRetN, TV.wNext, TV.wSet, TV.wDrop, TV.wFrz, TV.wMut, TV.wDisp, TV.wTup, TV.wOp, TV.wCall, TV.wDget, TV.wDput, TV.wFor, TV.wLc, TV.wiL, TV.wiT, TV.wiS, TV.wiR1, TV.wiR2, TV.wiEnumS, TV.wiEnum, TV.wgName, TV.wgTup, TV.wgCons, TV.wgNil, TV.wPar, TV.wPar3, TV.wAsg, TV.wUn, TV.wBM, TV.wApp, TV.wSetI, TV.wListC, TV.wSlL, TV.wSlS, TV.wSlT, TV.wNo, TV.wPart, TV.wYes, TV.wRev, TV.wMelt, TV.wNever, TV.wipe0, TV.wDictM, TV.wDictF, TV.wDict0F, TV.wPairs, List.getElem?_cons_zero, List.getElem?_cons_succ, List.set_cons_zero, List.set_cons_succ, Option.some.injEq, exists_eq_left', exists_eq_left, List.cons.injEq, and_true, true_and, TV.D.str.injEq, TV.D.int.injEq, TV.D.bl.injEq, TV.D.lst.injEq, TV.D.tup.injEq, TV.D.obj.injEq, List.map_cons, List.map_nil, TV.cmpD, TV.subD, TV.intD, TV.inSD, TV.ninSD, TV.isND, TV.notND, TV.isBD, TV.divmodC, TV.absC, isiC', TV.len_str, TV.len_lst, TV.len_tup, TV.tru_bl, TV.tru_int, TV.tru_str, TV.tru_lst, TV.tru_tup, TV.add_int, TV.add_str, TV.add_lst, TV.add_tup, TV.mul_int, TV.mul_str, TV.ix_str, TV.ix_lst, TV.ix_tup, TV.count_str, TV.eq_str, TV.ne_str, TV.eq_int, TV.ne_int, TV.eq_lst, TV.ne_lst, TV.sgx, TV.vw_non, TV.vw_bl, TV.vw_int, TV.vw_str, TV.vw_tup, TV.vw_lst, TV.vw_fro, TV.vw_dct, TV.key_str, TV.key_int, false_or, or_false, List.length_nil, TV.ty_non, TV.ty_bl, TV.ty_int, TV.ty_str, TV.ty_tup, TV.ty_lst, TV.ty_dct, TV.tn_str, TV.tn_int, TV.tn_bool, TV.tn_list, TV.tn_tuple, TV.tn_dict, TV.isT, String.reduceBEq, Bool.and_false, Bool.or_false, Bool.false_and, Bool.and_true, Bool.true_or, Bool.or_true, and_assoc, TV.D.ty.injEq, reduceCtorEq, exists_const, exists_and_left, exists_and_right, if_true, if_false, Bool.not_true, Bool.not_false, Bool.false_eq_true, reduceIte]
  exact hk
theorem repr_bl {M : MS} {b : Bool} {q} (hq : q (.str (PyData.bool b).shown)) : reprC M [.bl b] q := by
  cases b <;> exact ⟨_, _, rfl, rfl, by decide +kernel, by decide +kernel, by decide +kernel, hq⟩
theorem flat_ints : ∀ cs : List Int, (cs.map D.int).all flatD = true
  | [] => rfl
  | c :: cs => by simp [flatD, flat_ints cs]
theorem in_ints {M : MS} {b : Int} {cs : List Int} {q} (hq : q (.bl (memD (.int b) (cs.map D.int)))) : inD false M (.int b) (.lst (cs.map D.int)) q :=
  ⟨rfl, .inl ⟨_, rfl, flat_ints cs, hq⟩⟩
theorem sg_i {z : Str} {j : Int} {c : Nat} (h : z.cps.toList[j.toNat]? = some c) : sg z j = decide (c = 120) := by
  unfold sg
  rw [h]
  by_cases e : c = 120
  · subst e; rfl
  · rw [decide_eq_false e, decide_eq_false (fun z => e (Option.some.inj z))]
theorem ints_get {cs : List Int} {i : Nat} {d : D} (h : (cs.map D.int)[i]? = some d) : ∃ j, cs[i]? = some j ∧ d = .int j := by
  rw [List.getElem?_map] at h
  cases e : cs[i]? with
  | none => rw [e] at h; cases h
  | some j => rw [e] at h; exact ⟨j, rfl, (Option.some.inj h).symm⟩
theorem far_ok {z : Str} (z1 : 1 ≤ z.length) (g4 : 0 < (bts z).length ∧ ((bts z).length : Int) = cnt z ∧ cnt z ≤ 6 ∧ (tk z).length ≤ 40)
    (g5 : ∀ i < z.length, (i : Int) < b0 z (i : Nat) ∧ sg z ((b0 z (i : Nat) - 1) % z.length) = true ∧ b0 z (i : Nat) / z.length * cnt z + cnt (cutS z none (some (b0 z (i : Nat) % z.length))) = cnt (cutS z none (some ((i : Nat) : Int))) + 1 ∧
        0 ≤ cnt (cutS z none (some ((i : Nat) : Int))) ∧ cnt (cutS z none (some ((i : Nat) : Int))) ≤ cnt z ∧ b0 z (i : Nat) ≤ 12) {far : Int} (f0 : 0 ≤ far) :
    far < beatI z (timesI z far) ∧ takesB z (beatI z (timesI z far)) = true ∧ timesI z (beatI z (timesI z far)) = timesI z far + 1 ∧ 0 ≤ timesI z far ∧ timesI z far ≤ 6 * far + 6 ∧ beatI z (timesI z far) ≤ far + 12 := by
  have hs : (0 : Int) < z.length := by omega
  have r0 := Int.emod_nonneg far (by omega : (z.length : Int) ≠ 0)
  have r1 := Int.emod_lt_of_pos far hs
  have hq := Int.mul_ediv_add_emod far z.length
  have q0 : 0 ≤ far / z.length := Int.ediv_nonneg f0 (by omega)
  have q1 : far / z.length ≤ far := Int.ediv_le_self _ f0
  have e := g5 (far % z.length).toNat (by omega)
  rw [show (((far % (z.length : Int)).toNat : Nat) : Int) = far % z.length by omega] at e
  obtain ⟨e1, e2, e3, e4, e5, e6⟩ := e
  have m0 : 0 < cnt z := by omega
  have hb : beatI z (timesI z far) = far / z.length * z.length + b0 z (far % z.length) := by
    unfold beatI timesI b0
    rw [g4.2.1]
    by_cases hc : cnt (cutS z none (some (far % (z.length : Int)))) < cnt z
    · rw [if_pos hc, Int.add_comm (_ * cnt z), Int.add_mul_ediv_right _ _ (by omega), Int.add_mul_emod_self_right, Int.ediv_eq_zero_of_lt e4 hc, Int.emod_eq_of_lt e4 hc, Int.zero_add]
    · have hc' : cnt (cutS z none (some (far % (z.length : Int)))) = cnt z := by omega
      rw [if_neg hc, hc', Int.add_comm (_ * cnt z), Int.add_mul_ediv_right _ _ (by omega), Int.add_mul_emod_self_right, Int.ediv_self (by omega), Int.emod_self, Int.add_mul]
      simp only [Int.one_mul, Int.toNat_zero]
      omega
  have n0 : 0 ≤ far / z.length * z.length := Int.mul_nonneg q0 (by omega)
  have hq' : far / z.length * z.length = far - far % z.length := by rw [Int.mul_comm]; omega
  have hm0 : 0 ≤ far / z.length * cnt z := Int.mul_nonneg q0 (by omega)
  have hm6 : far / z.length * cnt z ≤ far * 6 := Int.mul_le_mul q1 g4.2.2.1 (by omega) f0
  refine ⟨by rw [hb]; omega, ?_, ?_, by unfold timesI; omega, by unfold timesI; omega, by rw [hb]; omega⟩
  · rw [hb]
    unfold takesB
    rw [decide_eq_true (by omega), Bool.true_and, show far / z.length * z.length + b0 z (far % z.length) - 1 = (b0 z (far % z.length) - 1) + far / z.length * z.length by omega, Int.add_mul_emod_self_right]
    exact e2
  · rw [hb]
    unfold timesI
    rw [Int.add_comm (far / z.length * z.length), Int.add_mul_ediv_right _ _ (by omega), Int.add_mul_emod_self_right, Int.add_mul]
    omega
def sp__law_counts : DSp := fun ds M _ k => ds.length = 2 ∧ ∃ z far, ds = [.str z, .int far] ∧ okRh z ∧ 0 ≤ far ∧ far ≤ 10 ^ 60 ∧ k (.bl true) M
theorem ok__law_counts (T : Tx K mg) : FnG P w K mg base CX0 2 T.f__law_counts T.e__law_counts ["_law_rhythm_here", "_law_far"] (rSp K sp__law_counts) := by
  refine fnT T.d__law_counts.fn sc__law_counts (fun ds M x k h => h.1) (by decide) (fun cdv A outer s H E rm => ?_) (fun ds M x k h => h)
  refine ⟨_, (yss_cons (ys_setLcF (i := 2) (own := [("_law_beat", 3)]) (g := gName 3) rfl sc__law_counts.nd rfl rfl (sw_true rfl rfl rfl (by decide +kernel)) (xi_range2 (by rfl) T.m_range (xa_cons xint (xa_cons xint xa_nil))) (blkOk_by (N := ["_law_rhythm_here", "_law_far", "_law_taken", "_law_beat", "_law_k", "_law_many", "_law_size", "_law_due", "_law_one"]) (sc := defScope s__law_counts) (by decide +kernel)) (tg_name (by decide)) (fun _ _ _ _ _ => pg_name (i := 3) sc__law_counts.nd rfl (Or.inl rfl)) (fun _ _ _ _ _ => xts_one (xt_cmp (op_eqE rm.u64) l_eqE (xe_ix (xv 0) (xe_op op_mod l_intD (xe_op op_sub l_subD (xv 3) xint) (xe_callB call_lenD' l_lenC (by rfl) T.m_len (by decide +kernel) (xa_cons (xv 0) xa_nil))) (fun _ _ => rfl)) xstr (nomark _))) (fun _ _ _ _ _ => (xv 3)))
      (yss_cons (ys_for PassesOwn.never rfl (xi_range2 (by rfl) T.m_range (xa_cons xint (xa_cons xint xa_nil))) (xg_name (i := 3) sc__law_counts.nd rfl (by first | exact Or.inl rfl | exact Or.inr rfl)) (yss_cons (ys_if (xt_cmp (op_neE rm.u64) l_neE (xe_callB (call_repr rm) l_reprC (by rfl) T.m_repr (by decide +kernel) (xa_cons (xcall (ok_takes T) (rm.mono (by decide)) (by rfl) T.d_takes.gl T.d_takes.fn.kp T.d_takes.bi pass0 (xa_cons (xv 0) (xa_cons (xv 3) xa_nil))) xa_nil)) (xe_callB (call_repr rm) l_reprC (by rfl) T.m_repr (by decide +kernel) (xa_cons (xe_cmp op_in_seq l_inD (xv 3) (xv 2) (by rfl)) xa_nil)) (nomark _)) (yss_one (ys_ret xbl)) yss_nil)
      (yss_one (ys_if (xt_not (xt_tru (xcall (ok__law_is_number T) (rm.mono (by decide)) (by rfl) T.d__law_is_number.gl T.d__law_is_number.fn.kp T.d__law_is_number.bi pass0 (xa_cons (xcall (ok_times_of T) (rm.mono (by decide)) (by rfl) T.d_times_of.gl T.d_times_of.fn.kp T.d_times_of.bi pass0 (xa_cons (xv 0) (xa_cons (xv 3) xa_nil))) (xa_cons (xe_callB call_lenD' l_lenC (by rfl) T.m_len (by decide +kernel) (xa_cons (xl_frz (xl_lc (own := [("_law_one", 8)]) (g := gName 8) rfl sc__law_counts.nd (xi_list (xv 2)) (blkOk_by (N := ["_law_rhythm_here", "_law_far", "_law_taken", "_law_beat", "_law_k", "_law_many", "_law_size", "_law_due", "_law_one"]) (sc := defScope s__law_counts) (by decide +kernel)) (tg_name (by decide)) (fun _ _ _ _ _ => pg_name (i := 8) sc__law_counts.nd rfl (Or.inl rfl)) (fun _ _ _ _ _ => xts_one (xt_cmp op_le l_cmpD (xv 8) (xv 3) (nomark _))) (fun _ _ _ _ _ => (xv 8)))) xa_nil)) xa_nil))))) (yss_one (ys_ret xbl)) yss_nil))))
      (yss_cons (ys_for PassesOwn.never rfl (xi_range1 (by rfl) T.m_range (xa_cons (xe_callB call_lenD' l_lenC (by rfl) T.m_len (by decide +kernel) (xa_cons (xv 2) xa_nil)) xa_nil)) (xg_name (i := 4) sc__law_counts.nd rfl (by first | exact Or.inl rfl | exact Or.inr rfl)) (yss_one (ys_if (xt_not (xt_tru (xcall (ok__law_is_number T) (rm.mono (by decide)) (by rfl) T.d__law_is_number.gl T.d__law_is_number.fn.kp T.d__law_is_number.bi pass0 (xa_cons (xcall (ok_beat_of T) (rm.mono (by decide)) (by rfl) T.d_beat_of.gl T.d_beat_of.fn.kp T.d_beat_of.bi pass0 (xa_cons (xv 0) (xa_cons (xv 4) xa_nil))) (xa_cons (xe_ix (xv 2) (xv 4) (fun _ _ => rfl)) xa_nil))))) (yss_one (ys_ret xbl)) yss_nil)))
      (yss_cons (ys_par (i := 5) (j := 6) rfl sc__law_counts.nd rfl rfl (by decide) rfl rfl (xa_cons (xe_bm PySem.F.plainAttrs_str PySem.F.slot_str_count PySem.F.type_str_count mt_count l_countM (by decide) (xv 0) (xa_cons xstr xa_nil)) (xa_cons (xe_callB call_lenD' l_lenC (by rfl) T.m_len (by decide +kernel) (xa_cons (xv 0) xa_nil)) xa_nil)) (by rfl))
      (yss_cons (ys_set (i := 7) sc__law_counts.nd rfl (by first | exact Or.inl rfl | exact Or.inr rfl) (xe_op op_addD l_addD (xe_op op_mulD l_mulD (xe_op op_fdivW l_intD (xv 1) (xv 6)) (xv 5)) (xe_bm PySem.F.plainAttrs_str PySem.F.slot_str_count PySem.F.type_str_count mt_count l_countM (by decide) (xe_sliceS (xv 0) xo_none (xo_some (xe_op op_mod l_intD (xv 1) (xv 6)))) (xa_cons xstr xa_nil))))
      (yss_cons (ys_if (xt_not (xt_tru (xcall (ok__law_is_number T) (rm.mono (by decide)) (by rfl) T.d__law_is_number.gl T.d__law_is_number.fn.kp T.d__law_is_number.bi pass0 (xa_cons (xcall (ok_times_of T) (rm.mono (by decide)) (by rfl) T.d_times_of.gl T.d_times_of.fn.kp T.d_times_of.bi pass0 (xa_cons (xv 0) (xa_cons (xv 1) xa_nil))) (xa_cons (xv 7) xa_nil))))) (yss_one (ys_ret xbl)) yss_nil)
      (yss_cons (ys_if (xt_cmp (op_neE rm.u64) l_neE (xe_callB (call_repr rm) l_reprC (by rfl) T.m_repr (by decide +kernel) (xa_cons (xcall (ok_takes T) (rm.mono (by decide)) (by rfl) T.d_takes.gl T.d_takes.fn.kp T.d_takes.bi pass0 (xa_cons (xv 0) (xa_cons (xe_op op_addD l_addD (xv 1) xint) xa_nil))) xa_nil)) (xe_callB (call_repr rm) l_reprC (by rfl) T.m_repr (by decide +kernel) (xa_cons (xe_cmp (op_eqE rm.u64) l_eqE (xe_ix (xv 0) (xe_op op_mod l_intD (xv 1) (xv 6)) (fun _ _ => rfl)) xstr (nomark _)) xa_nil)) (nomark _)) (yss_one (ys_ret xbl)) yss_nil)
      (yss_cons (ys_set (i := 3) sc__law_counts.nd rfl (by first | exact Or.inl rfl | exact Or.inr rfl) (xcall (ok_beat_of T) (rm.mono (by decide)) (by rfl) T.d_beat_of.gl T.d_beat_of.fn.kp T.d_beat_of.bi pass0 (xa_cons (xv 0) (xa_cons (xv 7) xa_nil))))
      (yss_one (ys_ret (xe_and (xe_cmp op_gt l_cmpD (xv 3) (xv 1) (nomark _)) (xe_and (xe_cmp op_isBl l_isBD (xcall (ok_takes T) (rm.mono (by decide)) (by rfl) T.d_takes.gl T.d_takes.fn.kp T.d_takes.bi pass0 (xa_cons (xv 0) (xa_cons (xv 3) xa_nil))) xbl (nomark _)) (xe_one (xe_cmp (op_eqE rm.u64) l_eqE (xcall (ok_times_of T) (rm.mono (by decide)) (by rfl) T.d_times_of.gl T.d_times_of.fn.kp T.d_times_of.bi pass0 (xa_cons (xv 0) (xa_cons (xv 3) xa_nil))) (xe_op op_addD l_addD (xv 7) xint) (nomark _))))))))))))))), ?_⟩
  intro ds M k h
  obtain ⟨-, z, far, rfl, hz, f0, f1, hk⟩ := h
  rw [show start0 ["_law_rhythm_here", "_law_far", "_law_taken", "_law_beat", "_law_k", "_law_many", "_law_size", "_law_due", "_law_one"] [D.str z, D.int far] = [some (.str z), some (.int far), none, none, none, none, none, none, none] from rfl]
  simp only [TV.wSeq, TV.wIf, TV.wOr, TV.wNot, TV.wAnd, TV.wAndV, TV.wOrV, TV.wNotV, TV.wIfE, TV.wTru, TV.wCB, TV.wCons, TV.wVar, TV.wC, TV.wNil, TV.wTest, TV.wChain, TV.wRet, TV.wRetN, TV.wNext, TV.wSet, TV.wDrop, TV.wFrz, TV.wMut, TV.wDisp, TV.wTup, TV.wOp, TV.wCall, TV.wDget, TV.wDput, TV.wFor, TV.wLc, TV.wiL, TV.wiT, TV.wiS, TV.wiR1, TV.wiR2, TV.wiEnumS, TV.wiEnum, TV.wgName, TV.wgTup, TV.wgCons, TV.wgNil, TV.wPar, TV.wPar3, TV.wAsg, TV.wUn, TV.wBM, TV.wApp, TV.wSetI, TV.wListC, TV.wSlL, TV.wSlS, TV.wSlT, TV.wNo, TV.wPart, TV.wYes, TV.wRev, TV.wMelt, TV.wNever, TV.wipe0, TV.wDictM, TV.wDictF, TV.wDict0F, TV.wPairs, List.getElem?_cons_zero, List.getElem?_cons_succ, List.set_cons_zero, List.set_cons_succ, Option.some.injEq, exists_eq_left', exists_eq_left, List.cons.injEq, and_true, true_and, TV.D.str.injEq, TV.D.int.injEq, TV.D.bl.injEq, TV.D.lst.injEq, TV.D.tup.injEq, TV.D.obj.injEq, List.map_cons, List.map_nil, TV.cmpD, TV.subD, TV.intD, TV.inSD, TV.ninSD, TV.isND, TV.notND, TV.isBD, TV.divmodC, TV.absC, isiC', TV.len_str, TV.len_lst, TV.len_tup, TV.tru_bl, TV.tru_int, TV.tru_str, TV.tru_lst, TV.tru_tup, TV.add_int, TV.add_str, TV.add_lst, TV.add_tup, TV.mul_int, TV.mul_str, TV.ix_str, TV.ix_lst, TV.ix_tup, TV.count_str, TV.eq_str, TV.ne_str, TV.eq_int, TV.ne_int, TV.eq_lst, TV.ne_lst, TV.sgx, TV.vw_non, TV.vw_bl, TV.vw_int, TV.vw_str, TV.vw_tup, TV.vw_lst, TV.vw_fro, TV.vw_dct, TV.key_str, TV.key_int, false_or, or_false, List.length_nil, TV.ty_non, TV.ty_bl, TV.ty_int, TV.ty_str, TV.ty_tup, TV.ty_lst, TV.ty_dct, TV.tn_str, TV.tn_int, TV.tn_bool, TV.tn_list, TV.tn_tuple, TV.tn_dict, TV.isT, String.reduceBEq, Bool.and_false, Bool.or_false, Bool.false_and, Bool.and_true, Bool.true_or, Bool.or_true, and_assoc, TV.D.ty.injEq, reduceCtorEq, exists_const, exists_and_left, exists_and_right, if_true, if_false, Bool.not_true, Bool.not_false, Bool.false_eq_true, reduceIte]
  obtain ⟨g1, g2, g3, g4, g5⟩ : (∀ i < 40, takesB z (1 + (i : Nat)) = memD (.int (1 + (i : Nat))) ((tk z).map D.int)) ∧ (∀ i < 40, timesI z (1 + (i : Nat)) = (((tk z).filter fun j => decide (j ≤ 1 + ((i : Nat) : Int))).length : Int)) ∧
      (∀ i < 40, i < (tk z).length → some (beatI z (i : Nat)) = (tk z)[i]?) ∧ (0 < (bts z).length ∧ ((bts z).length : Int) = cnt z ∧ cnt z ≤ 6 ∧ (tk z).length ≤ 40) ∧
      (∀ i < z.length, (i : Int) < b0 z (i : Nat) ∧ sg z ((b0 z (i : Nat) - 1) % z.length) = true ∧ b0 z (i : Nat) / z.length * cnt z + cnt (cutS z none (some (b0 z (i : Nat) % z.length))) = cnt (cutS z none (some ((i : Nat) : Int))) + 1 ∧
        0 ≤ cnt (cutS z none (some ((i : Nat) : Int))) ∧ cnt (cutS z none (some ((i : Nat) : Int))) ≤ cnt z ∧ b0 z (i : Nat) ≤ 12) := by
    have hz' := hz
    obtain ⟨l, hl, rfl⟩ := okRh_in hz
    have h6 := hz'.2.1
    rw [codes_len] at h6 ⊢
    exact ⟨fun i hi => fact1 l hl i (List.mem_range.mpr hi), fun i hi => fact2 l hl i (List.mem_range.mpr hi), fun i hi => fact3 l hl i (List.mem_range.mpr hi), fact4 l hl, fun i hi => by
      have := fact5 l hl i (List.mem_range.mpr (by omega)) hi
      rw [codes_len] at this
      exact this⟩
  have z1 := hz.1
  have z6 := hz.2.1
  have hlx : (rng 1 ((41 : Int) - 1).toNat).length = 40 := rng_len
  refine ⟨by decide, by decide, by decide, by decide, by omega, fun i acc M' => M' = M ∧ acc = fmD (fun (i : Nat) => sg z ((i : Int) % z.length)) (fun (i : Nat) => D.int (1 + (i : Int))) (List.range i), ⟨rfl, rfl⟩, ?_, ?_⟩
  · rintro i d acc M' hi ⟨rfl, rfl⟩
    obtain ⟨hi, rfl⟩ := rng_get hi
    have e0 : (1 + (i : Int) - 1) = i := by omega
    obtain ⟨c, e1, e2⟩ := atI_in (l := z.cps.toList) (i := (i : Int) % z.length) (Int.emod_nonneg _ (by omega)) (by rw [str_len]; exact Int.emod_lt_of_pos _ (by omega))
    refine ⟨_, rfl, by omega, by omega, by omega, c, by rw [e0]; exact e2, ?_⟩
    by_cases e : c = 120 <;> simp only [e, decide_true, decide_false, Bool.false_eq_true, if_true, if_false]
    · exact ⟨trivial, by rw [fm_range, sg_i e1]; simp [e]⟩
    · exact ⟨trivial, by rw [fm_range, sg_i e1]; simp [e]⟩
  rintro acc M' ⟨rfl, ha⟩
  rw [hlx] at ha
  have ha : acc = (tk z).map D.int := by rw [ha]; unfold fmD tk; rw [List.map_map]; rfl
  subst ha
  refine ⟨by decide, by decide, by decide, by decide, fun i ρ M1 => M1 = M' ∧ ∃ o, ρ = [some (.str z), some (.int far), some (.lst ((tk z).map D.int)), o, none, none, none, none, none], ⟨rfl, _, rfl⟩, ?_, ?_⟩
  · rintro i d ρ M1 hi ⟨rfl, o, rfl⟩
    obtain ⟨hi, rfl⟩ := rng_get hi
    simp only [TV.wSeq, TV.wIf, TV.wOr, TV.wNot, TV.wAnd, TV.wAndV, TV.wOrV, TV.wNotV, TV.wIfE, TV.wTru, TV.wCB, TV.wCons, TV.wVar, TV.wC, TV.wNil, TV.wTest, TV.wChain, TV.wRet, TV.wRetN, TV.wNext, TV.wSet, TV.wDrop, TV.wFrz, TV.wMut, TV.wDisp, TV.wTup, TV.wOp, TV.wCall, TV.wDget, TV.wDput, TV.wFor, TV.wLc, TV.wiL, TV.wiT, TV.wiS, TV.wiR1, TV.wiR2, TV.wiEnumS, TV.wiEnum, TV.wgName, TV.wgTup, TV.wgCons, TV.wgNil, TV.wPar, TV.wPar3, TV.wAsg, TV.wUn, TV.wBM, TV.wApp, TV.wSetI, TV.wListC, TV.wSlL, TV.wSlS, TV.wSlT, TV.wNo, TV.wPart, TV.wYes, TV.wRev, TV.wMelt, TV.wNever, TV.wipe0, TV.wDictM, TV.wDictF, TV.wDict0F, TV.wPairs, List.getElem?_cons_zero, List.getElem?_cons_succ, List.set_cons_zero, List.set_cons_succ, Option.some.injEq, exists_eq_left', exists_eq_left, List.cons.injEq, and_true, true_and, TV.D.str.injEq, TV.D.int.injEq, TV.D.bl.injEq, TV.D.lst.injEq, TV.D.tup.injEq, TV.D.obj.injEq, List.map_cons, List.map_nil, TV.cmpD, TV.subD, TV.intD, TV.inSD, TV.ninSD, TV.isND, TV.notND, TV.isBD, TV.divmodC, TV.absC, isiC', TV.len_str, TV.len_lst, TV.len_tup, TV.tru_bl, TV.tru_int, TV.tru_str, TV.tru_lst, TV.tru_tup, TV.add_int, TV.add_str, TV.add_lst, TV.add_tup, TV.mul_int, TV.mul_str, TV.ix_str, TV.ix_lst, TV.ix_tup, TV.count_str, TV.eq_str, TV.ne_str, TV.eq_int, TV.ne_int, TV.eq_lst, TV.ne_lst, TV.sgx, TV.vw_non, TV.vw_bl, TV.vw_int, TV.vw_str, TV.vw_tup, TV.vw_lst, TV.vw_fro, TV.vw_dct, TV.key_str, TV.key_int, false_or, or_false, List.length_nil, TV.ty_non, TV.ty_bl, TV.ty_int, TV.ty_str, TV.ty_tup, TV.ty_lst, TV.ty_dct, TV.tn_str, TV.tn_int, TV.tn_bool, TV.tn_list, TV.tn_tuple, TV.tn_dict, TV.isT, String.reduceBEq, Bool.and_false, Bool.or_false, Bool.false_and, Bool.and_true, Bool.true_or, Bool.or_true, and_assoc, TV.D.ty.injEq, reduceCtorEq, exists_const, exists_and_left, exists_and_right, if_true, if_false, Bool.not_true, Bool.not_false, Bool.false_eq_true, reduceIte]
    refine ⟨rfl, z, _, rfl, z1, by omega, repr_bl ?_⟩
    refine in_ints (repr_bl ?_)
    rw [g1 i (by omega)]
    simp only [TV.wSeq, TV.wIf, TV.wOr, TV.wNot, TV.wAnd, TV.wAndV, TV.wOrV, TV.wNotV, TV.wIfE, TV.wTru, TV.wCB, TV.wCons, TV.wVar, TV.wC, TV.wNil, TV.wTest, TV.wChain, TV.wRet, TV.wRetN, TV.wNext, TV.wSet, TV.wDrop, TV.wFrz, TV.wMut, TV.wDisp, TV.wTup, TV.wOp, TV.wCall, TV.wDget, TV.wDput, TV.wFor, TV.wLc, TV.wiL, TV.wiT, TV.wiS, TV.wiR1, TV.wiR2, TV.wiEnumS, TV.wiEnum, TV.wgName, TV.wgTup, TV.wgCons, TV.wgNil, TV.wPar, TV.wPar3, TV.wAsg, TV.wUn, TV.wBM, TV.wApp, TV.wSetI, TV.wListC, TV.wSlL, TV.wSlS, TV.wSlT, TV.wNo, TV.wPart, TV.wYes, TV.wRev, TV.wMelt, TV.wNever, TV.wipe0, TV.wDictM, TV.wDictF, TV.wDict0F, TV.wPairs, List.getElem?_cons_zero, List.getElem?_cons_succ, List.set_cons_zero, List.set_cons_succ, Option.some.injEq, exists_eq_left', exists_eq_left, List.cons.injEq, and_true, true_and, TV.D.str.injEq, TV.D.int.injEq, TV.D.bl.injEq, TV.D.lst.injEq, TV.D.tup.injEq, TV.D.obj.injEq, List.map_cons, List.map_nil, TV.cmpD, TV.subD, TV.intD, TV.inSD, TV.ninSD, TV.isND, TV.notND, TV.isBD, TV.divmodC, TV.absC, isiC', TV.len_str, TV.len_lst, TV.len_tup, TV.tru_bl, TV.tru_int, TV.tru_str, TV.tru_lst, TV.tru_tup, TV.add_int, TV.add_str, TV.add_lst, TV.add_tup, TV.mul_int, TV.mul_str, TV.ix_str, TV.ix_lst, TV.ix_tup, TV.count_str, TV.eq_str, TV.ne_str, TV.eq_int, TV.ne_int, TV.eq_lst, TV.ne_lst, TV.sgx, TV.vw_non, TV.vw_bl, TV.vw_int, TV.vw_str, TV.vw_tup, TV.vw_lst, TV.vw_fro, TV.vw_dct, TV.key_str, TV.key_int, false_or, or_false, List.length_nil, TV.ty_non, TV.ty_bl, TV.ty_int, TV.ty_str, TV.ty_tup, TV.ty_lst, TV.ty_dct, TV.tn_str, TV.tn_int, TV.tn_bool, TV.tn_list, TV.tn_tuple, TV.tn_dict, TV.isT, String.reduceBEq, Bool.and_false, Bool.or_false, Bool.false_and, Bool.and_true, Bool.true_or, Bool.or_true, and_assoc, TV.D.ty.injEq, reduceCtorEq, exists_const, exists_and_left, exists_and_right, if_true, if_false, Bool.not_true, Bool.not_false, Bool.false_eq_true, reduceIte]
    rw [if_neg (by simp)]
    refine ⟨rfl, z, _, rfl, z1, by omega, by omega, by omega, by omega, small_lt (by omega), ?_⟩
    refine ⟨by rw [List.length_map]; omega, fun j acc M' => M' = M1 ∧ acc = fmD (fun j : Int => decide (j ≤ 1 + (i : Int))) D.int ((tk z).take j), ⟨rfl, rfl⟩, ?_, ?_⟩
    · rintro j d acc M' hj ⟨rfl, rfl⟩
      obtain ⟨b, hb, rfl⟩ := ints_get hj
      refine ⟨b, rfl, ?_⟩
      by_cases e : b ≤ 1 + (i : Int) <;> simp only [e, decide_true, decide_false, Bool.false_eq_true, if_true, if_false]
      · exact ⟨trivial, by rw [fm_step hb]; simp [e]⟩
      · exact ⟨trivial, by rw [fm_step hb]; simp [e]⟩
    · rintro acc M' ⟨rfl, rfl⟩
      rw [List.length_map, List.take_length]
      refine ⟨rfl, _, _, rfl, ?_⟩
      rw [show decide (timesI z (1 + (i : Int)) = ((fmD (fun j : Int => decide (j ≤ 1 + (i : Int))) D.int (tk z)).length : Int)) = true by
        rw [g2 i (by omega)]; simp [fmD]]
      simp only [TV.wSeq, TV.wIf, TV.wOr, TV.wNot, TV.wAnd, TV.wAndV, TV.wOrV, TV.wNotV, TV.wIfE, TV.wTru, TV.wCB, TV.wCons, TV.wVar, TV.wC, TV.wNil, TV.wTest, TV.wChain, TV.wRet, TV.wRetN, TV.wNext, TV.wSet, TV.wDrop, TV.wFrz, TV.wMut, TV.wDisp, TV.wTup, TV.wOp, TV.wCall, TV.wDget, TV.wDput, TV.wFor, TV.wLc, TV.wiL, TV.wiT, TV.wiS, TV.wiR1, TV.wiR2, TV.wiEnumS, TV.wiEnum, TV.wgName, TV.wgTup, TV.wgCons, TV.wgNil, TV.wPar, TV.wPar3, TV.wAsg, TV.wUn, TV.wBM, TV.wApp, TV.wSetI, TV.wListC, TV.wSlL, TV.wSlS, TV.wSlT, TV.wNo, TV.wPart, TV.wYes, TV.wRev, TV.wMelt, TV.wNever, TV.wipe0, TV.wDictM, TV.wDictF, TV.wDict0F, TV.wPairs, List.getElem?_cons_zero, List.getElem?_cons_succ, List.set_cons_zero, List.set_cons_succ, Option.some.injEq, exists_eq_left', exists_eq_left, List.cons.injEq, and_true, true_and, TV.D.str.injEq, TV.D.int.injEq, TV.D.bl.injEq, TV.D.lst.injEq, TV.D.tup.injEq, TV.D.obj.injEq, List.map_cons, List.map_nil, TV.cmpD, TV.subD, TV.intD, TV.inSD, TV.ninSD, TV.isND, TV.notND, TV.isBD, TV.divmodC, TV.absC, isiC', TV.len_str, TV.len_lst, TV.len_tup, TV.tru_bl, TV.tru_int, TV.tru_str, TV.tru_lst, TV.tru_tup, TV.add_int, TV.add_str, TV.add_lst, TV.add_tup, TV.mul_int, TV.mul_str, TV.ix_str, TV.ix_lst, TV.ix_tup, TV.count_str, TV.eq_str, TV.ne_str, TV.eq_int, TV.ne_int, TV.eq_lst, TV.ne_lst, TV.sgx, TV.vw_non, TV.vw_bl, TV.vw_int, TV.vw_str, TV.vw_tup, TV.vw_lst, TV.vw_fro, TV.vw_dct, TV.key_str, TV.key_int, false_or, or_false, List.length_nil, TV.ty_non, TV.ty_bl, TV.ty_int, TV.ty_str, TV.ty_tup, TV.ty_lst, TV.ty_dct, TV.tn_str, TV.tn_int, TV.tn_bool, TV.tn_list, TV.tn_tuple, TV.tn_dict, TV.isT, String.reduceBEq, Bool.and_false, Bool.or_false, Bool.false_and, Bool.and_true, Bool.true_or, Bool.or_true, and_assoc, TV.D.ty.injEq, reduceCtorEq, exists_const, exists_and_left, exists_and_right, if_true, if_false, Bool.not_true, Bool.not_false, Bool.false_eq_true, reduceIte]
      exact ⟨_, rfl⟩
  · rintro ρ M1 ⟨rfl, o, rfl⟩
    simp only [TV.wSeq, TV.wIf, TV.wOr, TV.wNot, TV.wAnd, TV.wAndV, TV.wOrV, TV.wNotV, TV.wIfE, TV.wTru, TV.wCB, TV.wCons, TV.wVar, TV.wC, TV.wNil, TV.wTest, TV.wChain, TV.wRet, TV.wRetN, TV.wNext, TV.wSet, TV.wDrop, TV.wFrz, TV.wMut, TV.wDisp, TV.wTup, TV.wOp, TV.wCall, TV.wDget, TV.wDput, TV.wFor, TV.wLc, TV.wiL, TV.wiT, TV.wiS, TV.wiR1, TV.wiR2, TV.wiEnumS, TV.wiEnum, TV.wgName, TV.wgTup, TV.wgCons, TV.wgNil, TV.wPar, TV.wPar3, TV.wAsg, TV.wUn, TV.wBM, TV.wApp, TV.wSetI, TV.wListC, TV.wSlL, TV.wSlS, TV.wSlT, TV.wNo, TV.wPart, TV.wYes, TV.wRev, TV.wMelt, TV.wNever, TV.wipe0, TV.wDictM, TV.wDictF, TV.wDict0F, TV.wPairs, List.getElem?_cons_zero, List.getElem?_cons_succ, List.set_cons_zero, List.set_cons_succ, Option.some.injEq, exists_eq_left', exists_eq_left, List.cons.injEq, and_true, true_and, TV.D.str.injEq, TV.D.int.injEq, TV.D.bl.injEq, TV.D.lst.injEq, TV.D.tup.injEq, TV.D.obj.injEq, List.map_cons, List.map_nil, TV.cmpD, TV.subD, TV.intD, TV.inSD, TV.ninSD, TV.isND, TV.notND, TV.isBD, TV.divmodC, TV.absC, isiC', TV.len_str, TV.len_lst, TV.len_tup, TV.tru_bl, TV.tru_int, TV.tru_str, TV.tru_lst, TV.tru_tup, TV.add_int, TV.add_str, TV.add_lst, TV.add_tup, TV.mul_int, TV.mul_str, TV.ix_str, TV.ix_lst, TV.ix_tup, TV.count_str, TV.eq_str, TV.ne_str, TV.eq_int, TV.ne_int, TV.eq_lst, TV.ne_lst, TV.sgx, TV.vw_non, TV.vw_bl, TV.vw_int, TV.vw_str, TV.vw_tup, TV.vw_lst, TV.vw_fro, TV.vw_dct, TV.key_str, TV.key_int, false_or, or_false, List.length_nil, TV.ty_non, TV.ty_bl, TV.ty_int, TV.ty_str, TV.ty_tup, TV.ty_lst, TV.ty_dct, TV.tn_str, TV.tn_int, TV.tn_bool, TV.tn_list, TV.tn_tuple, TV.tn_dict, TV.isT, String.reduceBEq, Bool.and_false, Bool.or_false, Bool.false_and, Bool.and_true, Bool.true_or, Bool.or_true, and_assoc, TV.D.ty.injEq, reduceCtorEq, exists_const, exists_and_left, exists_and_right, if_true, if_false, Bool.not_true, Bool.not_false, Bool.false_eq_true, reduceIte]
    rw [List.length_map]
    refine ⟨by omega, by omega, fun i ρ M2 => M2 = M1 ∧ ∃ o3 o4, ρ = [some (.str z), some (.int far), some (.lst ((tk z).map D.int)), o3, o4, none, none, none, none], ⟨rfl, _, _, rfl⟩, ?_, ?_⟩
    · rintro i d ρ M2 hi ⟨rfl, o3, o4, rfl⟩
      obtain ⟨hi, rfl⟩ := rng_get hi
      simp only [TV.wSeq, TV.wIf, TV.wOr, TV.wNot, TV.wAnd, TV.wAndV, TV.wOrV, TV.wNotV, TV.wIfE, TV.wTru, TV.wCB, TV.wCons, TV.wVar, TV.wC, TV.wNil, TV.wTest, TV.wChain, TV.wRet, TV.wRetN, TV.wNext, TV.wSet, TV.wDrop, TV.wFrz, TV.wMut, TV.wDisp, TV.wTup, TV.wOp, TV.wCall, TV.wDget, TV.wDput, TV.wFor, TV.wLc, TV.wiL, TV.wiT, TV.wiS, TV.wiR1, TV.wiR2, TV.wiEnumS, TV.wiEnum, TV.wgName, TV.wgTup, TV.wgCons, TV.wgNil, TV.wPar, TV.wPar3, TV.wAsg, TV.wUn, TV.wBM, TV.wApp, TV.wSetI, TV.wListC, TV.wSlL, TV.wSlS, TV.wSlT, TV.wNo, TV.wPart, TV.wYes, TV.wRev, TV.wMelt, TV.wNever, TV.wipe0, TV.wDictM, TV.wDictF, TV.wDict0F, TV.wPairs, List.getElem?_cons_zero, List.getElem?_cons_succ, List.set_cons_zero, List.set_cons_succ, Option.some.injEq, exists_eq_left', exists_eq_left, List.cons.injEq, and_true, true_and, TV.D.str.injEq, TV.D.int.injEq, TV.D.bl.injEq, TV.D.lst.injEq, TV.D.tup.injEq, TV.D.obj.injEq, List.map_cons, List.map_nil, TV.cmpD, TV.subD, TV.intD, TV.inSD, TV.ninSD, TV.isND, TV.notND, TV.isBD, TV.divmodC, TV.absC, isiC', TV.len_str, TV.len_lst, TV.len_tup, TV.tru_bl, TV.tru_int, TV.tru_str, TV.tru_lst, TV.tru_tup, TV.add_int, TV.add_str, TV.add_lst, TV.add_tup, TV.mul_int, TV.mul_str, TV.ix_str, TV.ix_lst, TV.ix_tup, TV.count_str, TV.eq_str, TV.ne_str, TV.eq_int, TV.ne_int, TV.eq_lst, TV.ne_lst, TV.sgx, TV.vw_non, TV.vw_bl, TV.vw_int, TV.vw_str, TV.vw_tup, TV.vw_lst, TV.vw_fro, TV.vw_dct, TV.key_str, TV.key_int, false_or, or_false, List.length_nil, TV.ty_non, TV.ty_bl, TV.ty_int, TV.ty_str, TV.ty_tup, TV.ty_lst, TV.ty_dct, TV.tn_str, TV.tn_int, TV.tn_bool, TV.tn_list, TV.tn_tuple, TV.tn_dict, TV.isT, String.reduceBEq, Bool.and_false, Bool.or_false, Bool.false_and, Bool.and_true, Bool.true_or, Bool.or_true, and_assoc, TV.D.ty.injEq, reduceCtorEq, exists_const, exists_and_left, exists_and_right, if_true, if_false, Bool.not_true, Bool.not_false, Bool.false_eq_true, reduceIte]
      refine ⟨rfl, z, _, rfl, by omega, g4.1, by omega, small_lt (by omega), ?_⟩
      obtain ⟨c, e1, e2⟩ := atI_in (l := (tk z).map D.int) (i := 0 + (i : Int)) (by omega) (by rw [List.length_map]; omega)
      obtain ⟨j, e3, rfl⟩ := ints_get e1
      refine ⟨_, e2, rfl, _, _, rfl, ?_⟩
      rw [show decide (beatI z (0 + (i : Int)) = j) = true by
        have e4 := g3 i (by omega) (by omega)
        rw [show (0 + (i : Int)).toNat = i by omega] at e3
        rw [e3] at e4
        rw [Int.zero_add, Option.some.inj e4]; simp]
      simp only [TV.wSeq, TV.wIf, TV.wOr, TV.wNot, TV.wAnd, TV.wAndV, TV.wOrV, TV.wNotV, TV.wIfE, TV.wTru, TV.wCB, TV.wCons, TV.wVar, TV.wC, TV.wNil, TV.wTest, TV.wChain, TV.wRet, TV.wRetN, TV.wNext, TV.wSet, TV.wDrop, TV.wFrz, TV.wMut, TV.wDisp, TV.wTup, TV.wOp, TV.wCall, TV.wDget, TV.wDput, TV.wFor, TV.wLc, TV.wiL, TV.wiT, TV.wiS, TV.wiR1, TV.wiR2, TV.wiEnumS, TV.wiEnum, TV.wgName, TV.wgTup, TV.wgCons, TV.wgNil, TV.wPar, TV.wPar3, TV.wAsg, TV.wUn, TV.wBM, TV.wApp, TV.wSetI, TV.wListC, TV.wSlL, TV.wSlS, TV.wSlT, TV.wNo, TV.wPart, TV.wYes, TV.wRev, TV.wMelt, TV.wNever, TV.wipe0, TV.wDictM, TV.wDictF, TV.wDict0F, TV.wPairs, List.getElem?_cons_zero, List.getElem?_cons_succ, List.set_cons_zero, List.set_cons_succ, Option.some.injEq, exists_eq_left', exists_eq_left, List.cons.injEq, and_true, true_and, TV.D.str.injEq, TV.D.int.injEq, TV.D.bl.injEq, TV.D.lst.injEq, TV.D.tup.injEq, TV.D.obj.injEq, List.map_cons, List.map_nil, TV.cmpD, TV.subD, TV.intD, TV.inSD, TV.ninSD, TV.isND, TV.notND, TV.isBD, TV.divmodC, TV.absC, isiC', TV.len_str, TV.len_lst, TV.len_tup, TV.tru_bl, TV.tru_int, TV.tru_str, TV.tru_lst, TV.tru_tup, TV.add_int, TV.add_str, TV.add_lst, TV.add_tup, TV.mul_int, TV.mul_str, TV.ix_str, TV.ix_lst, TV.ix_tup, TV.count_str, TV.eq_str, TV.ne_str, TV.eq_int, TV.ne_int, TV.eq_lst, TV.ne_lst, TV.sgx, TV.vw_non, TV.vw_bl, TV.vw_int, TV.vw_str, TV.vw_tup, TV.vw_lst, TV.vw_fro, TV.vw_dct, TV.key_str, TV.key_int, false_or, or_false, List.length_nil, TV.ty_non, TV.ty_bl, TV.ty_int, TV.ty_str, TV.ty_tup, TV.ty_lst, TV.ty_dct, TV.tn_str, TV.tn_int, TV.tn_bool, TV.tn_list, TV.tn_tuple, TV.tn_dict, TV.isT, String.reduceBEq, Bool.and_false, Bool.or_false, Bool.false_and, Bool.and_true, Bool.true_or, Bool.or_true, and_assoc, TV.D.ty.injEq, reduceCtorEq, exists_const, exists_and_left, exists_and_right, if_true, if_false, Bool.not_true, Bool.not_false, Bool.false_eq_true, reduceIte]
      exact ⟨_, rfl⟩
    · rintro ρ M2 ⟨rfl, o3, o4, rfl⟩
      simp only [TV.wSeq, TV.wIf, TV.wOr, TV.wNot, TV.wAnd, TV.wAndV, TV.wOrV, TV.wNotV, TV.wIfE, TV.wTru, TV.wCB, TV.wCons, TV.wVar, TV.wC, TV.wNil, TV.wTest, TV.wChain, TV.wRet, TV.wRetN, TV.wNext, TV.wSet, TV.wDrop, TV.wFrz, TV.wMut, TV.wDisp, TV.wTup, TV.wOp, TV.wCall, TV.wDget, TV.wDput, TV.wFor, TV.wLc, TV.wiL, TV.wiT, TV.wiS, TV.wiR1, TV.wiR2, TV.wiEnumS, TV.wiEnum, TV.wgName, TV.wgTup, TV.wgCons, TV.wgNil, TV.wPar, TV.wPar3, TV.wAsg, TV.wUn, TV.wBM, TV.wApp, TV.wSetI, TV.wListC, TV.wSlL, TV.wSlS, TV.wSlT, TV.wNo, TV.wPart, TV.wYes, TV.wRev, TV.wMelt, TV.wNever, TV.wipe0, TV.wDictM, TV.wDictF, TV.wDict0F, TV.wPairs, List.getElem?_cons_zero, List.getElem?_cons_succ, List.set_cons_zero, List.set_cons_succ, Option.some.injEq, exists_eq_left', exists_eq_left, List.cons.injEq, and_true, true_and, TV.D.str.injEq, TV.D.int.injEq, TV.D.bl.injEq, TV.D.lst.injEq, TV.D.tup.injEq, TV.D.obj.injEq, List.map_cons, List.map_nil, TV.cmpD, TV.subD, TV.intD, TV.inSD, TV.ninSD, TV.isND, TV.notND, TV.isBD, TV.divmodC, TV.absC, isiC', TV.len_str, TV.len_lst, TV.len_tup, TV.tru_bl, TV.tru_int, TV.tru_str, TV.tru_lst, TV.tru_tup, TV.add_int, TV.add_str, TV.add_lst, TV.add_tup, TV.mul_int, TV.mul_str, TV.ix_str, TV.ix_lst, TV.ix_tup, TV.count_str, TV.eq_str, TV.ne_str, TV.eq_int, TV.ne_int, TV.eq_lst, TV.ne_lst, TV.sgx, TV.vw_non, TV.vw_bl, TV.vw_int, TV.vw_str, TV.vw_tup, TV.vw_lst, TV.vw_fro, TV.vw_dct, TV.key_str, TV.key_int, false_or, or_false, List.length_nil, TV.ty_non, TV.ty_bl, TV.ty_int, TV.ty_str, TV.ty_tup, TV.ty_lst, TV.ty_dct, TV.tn_str, TV.tn_int, TV.tn_bool, TV.tn_list, TV.tn_tuple, TV.tn_dict, TV.isT, String.reduceBEq, Bool.and_false, Bool.or_false, Bool.false_and, Bool.and_true, Bool.true_or, Bool.or_true, and_assoc, TV.D.ty.injEq, reduceCtorEq, exists_const, exists_and_left, exists_and_right, if_true, if_false, Bool.not_true, Bool.not_false, Bool.false_eq_true, reduceIte]
      have eD : far / (z.length : Int) * Txt.count z "x" + Txt.count (cutS z none (some (far % (z.length : Int)))) "x" = timesI z far := rfl
      simp only [eD]
      obtain ⟨h1, h2, h3, h4, h5, h6⟩ := far_ok z1 g4 g5 f0
      have big : (10 : Int) ^ 60 = 1000000000000000000000000000000000000000000000000000000000000 := by decide
      have lt1 : ∀ {m : Int}, m < 100000000000000000000000000000000000000000000000000000000000000 → m < 2 ^ 1000 := fun h => Int.lt_trans h (by decide +kernel)
      have dl := div_lt (m := (z.length : Int)) f0 (lt1 (by omega)) (by omega)
      refine ⟨by omega, ⟨by omega, by have := log_of (i := (z.length : Int)) (n := 1000) (by omega) (small_lt (by omega)) (by decide); omega⟩, mulW dl.1 dl.2 (by show 0 ≤ cnt z; omega) (small_lt (by show cnt z < _; omega)), by omega, by omega, ?_⟩
      refine ⟨rfl, z, _, rfl, z1, by omega, by omega, by omega, f0, lt1 (by omega), ?_⟩
      refine ⟨rfl, _, _, rfl, ?_⟩
      rw [decide_eq_true rfl]
      simp only [TV.wSeq, TV.wIf, TV.wOr, TV.wNot, TV.wAnd, TV.wAndV, TV.wOrV, TV.wNotV, TV.wIfE, TV.wTru, TV.wCB, TV.wCons, TV.wVar, TV.wC, TV.wNil, TV.wTest, TV.wChain, TV.wRet, TV.wRetN, TV.wNext, TV.wSet, TV.wDrop, TV.wFrz, TV.wMut, TV.wDisp, TV.wTup, TV.wOp, TV.wCall, TV.wDget, TV.wDput, TV.wFor, TV.wLc, TV.wiL, TV.wiT, TV.wiS, TV.wiR1, TV.wiR2, TV.wiEnumS, TV.wiEnum, TV.wgName, TV.wgTup, TV.wgCons, TV.wgNil, TV.wPar, TV.wPar3, TV.wAsg, TV.wUn, TV.wBM, TV.wApp, TV.wSetI, TV.wListC, TV.wSlL, TV.wSlS, TV.wSlT, TV.wNo, TV.wPart, TV.wYes, TV.wRev, TV.wMelt, TV.wNever, TV.wipe0, TV.wDictM, TV.wDictF, TV.wDict0F, TV.wPairs, List.getElem?_cons_zero, List.getElem?_cons_succ, List.set_cons_zero, List.set_cons_succ, Option.some.injEq, exists_eq_left', exists_eq_left, List.cons.injEq, and_true, true_and, TV.D.str.injEq, TV.D.int.injEq, TV.D.bl.injEq, TV.D.lst.injEq, TV.D.tup.injEq, TV.D.obj.injEq, List.map_cons, List.map_nil, TV.cmpD, TV.subD, TV.intD, TV.inSD, TV.ninSD, TV.isND, TV.notND, TV.isBD, TV.divmodC, TV.absC, isiC', TV.len_str, TV.len_lst, TV.len_tup, TV.tru_bl, TV.tru_int, TV.tru_str, TV.tru_lst, TV.tru_tup, TV.add_int, TV.add_str, TV.add_lst, TV.add_tup, TV.mul_int, TV.mul_str, TV.ix_str, TV.ix_lst, TV.ix_tup, TV.count_str, TV.eq_str, TV.ne_str, TV.eq_int, TV.ne_int, TV.eq_lst, TV.ne_lst, TV.sgx, TV.vw_non, TV.vw_bl, TV.vw_int, TV.vw_str, TV.vw_tup, TV.vw_lst, TV.vw_fro, TV.vw_dct, TV.key_str, TV.key_int, false_or, or_false, List.length_nil, TV.ty_non, TV.ty_bl, TV.ty_int, TV.ty_str, TV.ty_tup, TV.ty_lst, TV.ty_dct, TV.tn_str, TV.tn_int, TV.tn_bool, TV.tn_list, TV.tn_tuple, TV.tn_dict, TV.isT, String.reduceBEq, Bool.and_false, Bool.or_false, Bool.false_and, Bool.and_true, Bool.true_or, Bool.or_true, and_assoc, TV.D.ty.injEq, reduceCtorEq, exists_const, exists_and_left, exists_and_right, if_true, if_false, Bool.not_true, Bool.not_false, Bool.false_eq_true, reduceIte]
      obtain ⟨c, e1, e2⟩ := atI_in (l := z.cps.toList) (i := far % (z.length : Int)) (Int.emod_nonneg _ (by omega)) (by rw [str_len]; exact Int.emod_lt_of_pos _ (by omega))
      refine ⟨rfl, z, _, rfl, z1, by omega, repr_bl ⟨by omega, by omega, c, e2, repr_bl ?_⟩⟩
      have e3 : takesB z (far + 1) = decide (c = 120) := by
        unfold takesB
        rw [decide_eq_true (by omega : 1 ≤ far + 1), Bool.true_and, show far + 1 - 1 = far by omega, sg_i e1]
      rw [e3]
      simp only [TV.wSeq, TV.wIf, TV.wOr, TV.wNot, TV.wAnd, TV.wAndV, TV.wOrV, TV.wNotV, TV.wIfE, TV.wTru, TV.wCB, TV.wCons, TV.wVar, TV.wC, TV.wNil, TV.wTest, TV.wChain, TV.wRet, TV.wRetN, TV.wNext, TV.wSet, TV.wDrop, TV.wFrz, TV.wMut, TV.wDisp, TV.wTup, TV.wOp, TV.wCall, TV.wDget, TV.wDput, TV.wFor, TV.wLc, TV.wiL, TV.wiT, TV.wiS, TV.wiR1, TV.wiR2, TV.wiEnumS, TV.wiEnum, TV.wgName, TV.wgTup, TV.wgCons, TV.wgNil, TV.wPar, TV.wPar3, TV.wAsg, TV.wUn, TV.wBM, TV.wApp, TV.wSetI, TV.wListC, TV.wSlL, TV.wSlS, TV.wSlT, TV.wNo, TV.wPart, TV.wYes, TV.wRev, TV.wMelt, TV.wNever, TV.wipe0, TV.wDictM, TV.wDictF, TV.wDict0F, TV.wPairs, List.getElem?_cons_zero, List.getElem?_cons_succ, List.set_cons_zero, List.set_cons_succ, Option.some.injEq, exists_eq_left', exists_eq_left, List.cons.injEq, and_true, true_and, TV.D.str.injEq, TV.D.int.injEq, TV.D.bl.injEq, TV.D.lst.injEq, TV.D.tup.injEq, TV.D.obj.injEq, List.map_cons, List.map_nil, TV.cmpD, TV.subD, TV.intD, TV.inSD, TV.ninSD, TV.isND, TV.notND, TV.isBD, TV.divmodC, TV.absC, isiC', TV.len_str, TV.len_lst, TV.len_tup, TV.tru_bl, TV.tru_int, TV.tru_str, TV.tru_lst, TV.tru_tup, TV.add_int, TV.add_str, TV.add_lst, TV.add_tup, TV.mul_int, TV.mul_str, TV.ix_str, TV.ix_lst, TV.ix_tup, TV.count_str, TV.eq_str, TV.ne_str, TV.eq_int, TV.ne_int, TV.eq_lst, TV.ne_lst, TV.sgx, TV.vw_non, TV.vw_bl, TV.vw_int, TV.vw_str, TV.vw_tup, TV.vw_lst, TV.vw_fro, TV.vw_dct, TV.key_str, TV.key_int, false_or, or_false, List.length_nil, TV.ty_non, TV.ty_bl, TV.ty_int, TV.ty_str, TV.ty_tup, TV.ty_lst, TV.ty_dct, TV.tn_str, TV.tn_int, TV.tn_bool, TV.tn_list, TV.tn_tuple, TV.tn_dict, TV.isT, String.reduceBEq, Bool.and_false, Bool.or_false, Bool.false_and, Bool.and_true, Bool.true_or, Bool.or_true, and_assoc, TV.D.ty.injEq, reduceCtorEq, exists_const, exists_and_left, exists_and_right, if_true, if_false, Bool.not_true, Bool.not_false, Bool.false_eq_true, reduceIte]
      rw [if_neg (by simp)]
      refine ⟨rfl, z, _, rfl, by omega, g4.1, h4, lt1 (by omega), _, rfl, ?_⟩
      rw [if_pos (decide_eq_true h1)]
      refine ⟨rfl, z, _, rfl, z1, by omega, _, rfl, ?_⟩
      rw [h2]
      simp only [TV.wSeq, TV.wIf, TV.wOr, TV.wNot, TV.wAnd, TV.wAndV, TV.wOrV, TV.wNotV, TV.wIfE, TV.wTru, TV.wCB, TV.wCons, TV.wVar, TV.wC, TV.wNil, TV.wTest, TV.wChain, TV.wRet, TV.wRetN, TV.wNext, TV.wSet, TV.wDrop, TV.wFrz, TV.wMut, TV.wDisp, TV.wTup, TV.wOp, TV.wCall, TV.wDget, TV.wDput, TV.wFor, TV.wLc, TV.wiL, TV.wiT, TV.wiS, TV.wiR1, TV.wiR2, TV.wiEnumS, TV.wiEnum, TV.wgName, TV.wgTup, TV.wgCons, TV.wgNil, TV.wPar, TV.wPar3, TV.wAsg, TV.wUn, TV.wBM, TV.wApp, TV.wSetI, TV.wListC, TV.wSlL, TV.wSlS, TV.wSlT, TV.wNo, TV.wPart, TV.wYes, TV.wRev, TV.wMelt, TV.wNever, TV.wipe0, TV.wDictM, TV.wDictF, TV.wDict0F, TV.wPairs, List.getElem?_cons_zero, List.getElem?_cons_succ, List.set_cons_zero, List.set_cons_succ, Option.some.injEq, exists_eq_left', exists_eq_left, List.cons.injEq, and_true, true_and, TV.D.str.injEq, TV.D.int.injEq, TV.D.bl.injEq, TV.D.lst.injEq, TV.D.tup.injEq, TV.D.obj.injEq, List.map_cons, List.map_nil, TV.cmpD, TV.subD, TV.intD, TV.inSD, TV.ninSD, TV.isND, TV.notND, TV.isBD, TV.divmodC, TV.absC, isiC', TV.len_str, TV.len_lst, TV.len_tup, TV.tru_bl, TV.tru_int, TV.tru_str, TV.tru_lst, TV.tru_tup, TV.add_int, TV.add_str, TV.add_lst, TV.add_tup, TV.mul_int, TV.mul_str, TV.ix_str, TV.ix_lst, TV.ix_tup, TV.count_str, TV.eq_str, TV.ne_str, TV.eq_int, TV.ne_int, TV.eq_lst, TV.ne_lst, TV.sgx, TV.vw_non, TV.vw_bl, TV.vw_int, TV.vw_str, TV.vw_tup, TV.vw_lst, TV.vw_fro, TV.vw_dct, TV.key_str, TV.key_int, false_or, or_false, List.length_nil, TV.ty_non, TV.ty_bl, TV.ty_int, TV.ty_str, TV.ty_tup, TV.ty_lst, TV.ty_dct, TV.tn_str, TV.tn_int, TV.tn_bool, TV.tn_list, TV.tn_tuple, TV.tn_dict, TV.isT, String.reduceBEq, Bool.and_false, Bool.or_false, Bool.false_and, Bool.and_true, Bool.true_or, Bool.or_true, and_assoc, TV.D.ty.injEq, reduceCtorEq, exists_const, exists_and_left, exists_and_right, if_true, if_false, Bool.not_true, Bool.not_false, Bool.false_eq_true, reduceIte]
      refine ⟨rfl, z, _, rfl, z1, by omega, by omega, by omega, by omega, lt1 (by omega), ?_⟩
      rw [h3]
      simp only [TV.wSeq, TV.wIf, TV.wOr, TV.wNot, TV.wAnd, TV.wAndV, TV.wOrV, TV.wNotV, TV.wIfE, TV.wTru, TV.wCB, TV.wCons, TV.wVar, TV.wC, TV.wNil, TV.wTest, TV.wChain, TV.wRet, TV.wRetN, TV.wNext, TV.wSet, TV.wDrop, TV.wFrz, TV.wMut, TV.wDisp, TV.wTup, TV.wOp, TV.wCall, TV.wDget, TV.wDput, TV.wFor, TV.wLc, TV.wiL, TV.wiT, TV.wiS, TV.wiR1, TV.wiR2, TV.wiEnumS, TV.wiEnum, TV.wgName, TV.wgTup, TV.wgCons, TV.wgNil, TV.wPar, TV.wPar3, TV.wAsg, TV.wUn, TV.wBM, TV.wApp, TV.wSetI, TV.wListC, TV.wSlL, TV.wSlS, TV.wSlT, TV.wNo, TV.wPart, TV.wYes, TV.wRev, TV.wMelt, TV.wNever, TV.wipe0, TV.wDictM, TV.wDictF, TV.wDict0F, TV.wPairs, List.getElem?_cons_zero, List.getElem?_cons_succ, List.set_cons_zero, List.set_cons_succ, Option.some.injEq, exists_eq_left', exists_eq_left, List.cons.injEq, and_true, true_and, TV.D.str.injEq, TV.D.int.injEq, TV.D.bl.injEq, TV.D.lst.injEq, TV.D.tup.injEq, TV.D.obj.injEq, List.map_cons, List.map_nil, TV.cmpD, TV.subD, TV.intD, TV.inSD, TV.ninSD, TV.isND, TV.notND, TV.isBD, TV.divmodC, TV.absC, isiC', TV.len_str, TV.len_lst, TV.len_tup, TV.tru_bl, TV.tru_int, TV.tru_str, TV.tru_lst, TV.tru_tup, TV.add_int, TV.add_str, TV.add_lst, TV.add_tup, TV.mul_int, TV.mul_str, TV.ix_str, TV.ix_lst, TV.ix_tup, TV.count_str, TV.eq_str, TV.ne_str, TV.eq_int, TV.ne_int, TV.eq_lst, TV.ne_lst, TV.sgx, TV.vw_non, TV.vw_bl, TV.vw_int, TV.vw_str, TV.vw_tup, TV.vw_lst, TV.vw_fro, TV.vw_dct, TV.key_str, TV.key_int, false_or, or_false, List.length_nil, TV.ty_non, TV.ty_bl, TV.ty_int, TV.ty_str, TV.ty_tup, TV.ty_lst, TV.ty_dct, TV.tn_str, TV.tn_int, TV.tn_bool, TV.tn_list, TV.tn_tuple, TV.tn_dict, TV.isT, String.reduceBEq, Bool.and_false, Bool.or_false, Bool.false_and, Bool.and_true, Bool.true_or, Bool.or_true, and_assoc, TV.D.ty.injEq, reduceCtorEq, exists_const, exists_and_left, exists_and_right, if_true, if_false, Bool.not_true, Bool.not_false, Bool.false_eq_true, reduceIte]
      exact hk
end
end K01

set_option Elab.async false
set_option linter.all false
set_option maxRecDepth 100000
set_option maxHeartbeats 4000000
namespace K01
open PySem PySem.Spec PyProof.Rows L2 TV
section
variable {P : Program} {w : World} {K : PySem.W.Frag} {mg : Str → Option Value} {base : Heap}
/-! things that are looked at -/
def goodP (d : D) (p : PyData) : Prop := saneL d ∧ toR d = some p ∧ p.showable = true ∧ p.depth ≤ 60 ∧ p.shown.length ≤ 1000000
def good (d : D) : Prop := ∃ p, goodP d p
theorem repr_good {M : MS} {d : D} {p : PyData} {q} (h : goodP d p) (hq : q (.str p.shown)) : reprC M [d] q := by
  obtain ⟨t, ht⟩ := h.1.1
  exact ⟨d, p, rfl, by rw [ty_view ht]; exact h.2.1, h.2.2.1, h.2.2.2.1, h.2.2.2.2, hq⟩
theorem repr_bb {M : MS} {a b : Bool} {q} (hq : q (.str (PyData.list [.bool a, .bool b]).shown)) : reprC M [.lst [.bl a, .bl b]] q := by
  cases a <;> cases b <;> exact ⟨_, _, rfl, rfl, by decide +kernel, by decide +kernel, by decide +kernel, hq⟩
theorem good_str {z : Str} (hl : lat z) (h : z.length ≤ 100000) : good (.str z) :=
  ⟨.str z, ⟨⟨_, rfl⟩, fun s e => by cases e; exact ⟨h, hl⟩⟩, rfl, by simp [PyData.showable], by simp [PyData.depth], by have := shownS_len hl; omega⟩
theorem good_lst1 {z : Str} (hl : lat z) (h : z.length ≤ 100000) : good (.lst [.str z]) :=
  ⟨.list [.str z], ⟨⟨_, rfl⟩, fun s e => by cases e⟩, by simp [toR, toRs], by simp [PyData.showable, PyData.showableAll], by simp [PyData.depth, PyData.depthAll], by have := shownS_len hl; rw [shownL1_len]; omega⟩
theorem lat_dec (z : Str) (h : (z.cps.toList.all fun c => decide (c < 256)) = true) : lat z := fun c hc => by simpa using List.all_eq_true.mp h c hc
theorem good_odd : ∀ d ∈ oddL, good d := by
  intro d hd
  simp only [oddL, List.mem_cons, List.not_mem_nil, or_false] at hd
  rcases hd with h | h | h | h | h | h | h | h | h | h | h | h | h | h | h | h | h | h | h | h | h | h | h | h | h | h | h | h <;> subst h
  all_goals first
    | exact good_str (lat_dec _ (by decide +kernel)) (by decide +kernel)
    | exact ⟨_, ⟨⟨_, rfl⟩, fun s e => by cases e⟩, rfl, by decide +kernel, by decide +kernel, by decide +kernel⟩
theorem mul_list {z : Str} {n : Int} (h : 1 ≤ n) : (Txt.mul z n).cps.toList = (List.replicate n.toNat z.cps.toList).flatten := by
  have key : ∀ (k : Nat) (a : Array Nat), ((List.replicate k z.cps).foldl (fun x y => x ++ y) a).toList = a.toList ++ (List.replicate k z.cps.toList).flatten := by
    intro k
    induction k with
    | zero => intro a; simp
    | succ k ih => intro a; rw [List.replicate_succ, List.foldl_cons, ih]; simp [List.replicate_succ]
  unfold Txt.mul
  rw [if_neg (by omega)]
  split
  · rename_i e
    simp only [Bool.or_eq_true, beq_iff_eq] at e
    rcases e with e | e
    · subst e; simp
    · have : z.cps.toList = [] := by rw [← List.length_eq_zero_iff, str_len]; exact e
      rw [this]; simp
  · show ((List.replicate n.toNat z.cps).foldl (fun x y => x ++ y) #[]).toList = _
    rw [key]; simp
theorem good_mul {z : Str} {n : Int} (hl : lat z) (h1 : 1 ≤ n) (h : z.length * n.toNat ≤ 100000) : good (.str (Txt.mul z n)) := by
  refine good_str (fun c hc => ?_) ?_
  · rw [mul_list h1] at hc
    obtain ⟨l, hl1, hl2⟩ := List.mem_flatten.mp hc
    rw [List.eq_of_mem_replicate hl1] at hl2
    exact hl c hl2
  · rw [← str_len, mul_list h1, List.length_flatten, List.map_replicate, List.sum_replicate_nat, str_len, Nat.mul_comm]
    exact h
theorem ok_lat {s : Str} (h : okName s) : lat s := fun c hc => by
  have : ∀ c ∈ abc, c < 256 := by decide +kernel
  exact this c (h.2.2 c hc)
theorem rh_lat {s : Str} (h : okRh s) : lat s := fun c hc => by
  rcases h.2.2.1 c hc with e | e <;> omega
theorem fact6 : ∀ l ∈ rhyL, timesI (ofCodes l) 0 = 0 ∧ 0 ≤ cnt (ofCodes l) ∧ cnt (ofCodes l) ≤ 6 := by decide +kernel
theorem rh_six {z : Str} (h : okRh z) : timesI z 0 = 0 ∧ 0 ≤ cnt z ∧ cnt z ≤ 6 := by
  obtain ⟨l, hl, rfl⟩ := okRh_in h
  exact fact6 l hl
theorem use_names {M0 : MS} {p : Addr} {es : List (Key × D)} {n : Nat} {many : Int} {x : XD} {k : KD} (hp : penD n es) (hn : n < 900000) (h0 : 0 ≤ many) (h1 : many ≤ 1000)
    (hk : ∀ (ns : List Str) es', (ns.length : Int) = many → (∀ s ∈ ns, okName s) → penD (n + 13) es' → k (.lst (ns.map .str)) (updM M0 p (.dct es'))) : sp__law_names [.obj p, .int many] (updM M0 p (.dct es)) x k :=
  ⟨rfl, p, many, n, es, rfl, updM_at, hp, hn, h0, h1, fun ns es' a b c => by rw [updM_updM]; exact hk ns es' a b c⟩
theorem use_rhythm {M0 : MS} {p : Addr} {es : List (Key × D)} {n : Nat} {x : XD} {k : KD} (hp : penD n es) (hn : n < 900000)
    (hk : ∀ z es', okRh z → penD (n + 8) es' → k (.str z) (updM M0 p (.dct es'))) : sp__law_rhythm [.obj p] (updM M0 p (.dct es)) x k :=
  ⟨rfl, p, n, es, rfl, updM_at, hp, hn, fun z es' a b => by rw [updM_updM]; exact hk z es' a b⟩
theorem use_odd {M0 : MS} {p : Addr} {es : List (Key × D)} {n : Nat} {x : XD} {k : KD} (hp : penD n es) (hn : n < 900000)
    (hk : ∀ d es', d ∈ oddL → penD (n + 1) es' → k d (updM M0 p (.dct es'))) : sp__law_odd [.obj p] (updM M0 p (.dct es)) x k :=
  ⟨rfl, p, n, es, rfl, updM_at, hp, hn, fun z es' a b => by rw [updM_updM]; exact hk z es' a b⟩
theorem use_bent {M0 : MS} {p : Addr} {es : List (Key × D)} {n : Nat} {z : Str} {x : XD} {k : KD} (hp : penD n es) (hn : n < 900000) (hz : z.length ≤ 50000) (hl : lat z)
    (hk : ∀ z' es', z'.length ≤ z.length + 8 → lat z' → penD (n + 4) es' → k (.str z') (updM M0 p (.dct es'))) : sp__law_bent [.obj p, .str z] (updM M0 p (.dct es)) x k :=
  ⟨rfl, p, z, n, es, rfl, hz, hl, updM_at, hp, hn, fun z' es' a b c => by rw [updM_updM]; exact hk z' es' a b c⟩
def sp_law : DSp := fun ds M _ k => ds.length = 1 ∧ ∃ cs : List Int, ds = [.fro (cs.map D.int)] ∧ ∀ M', k (.bl true) M'
theorem ok_law (T : Tx K mg) : FnG P w K mg base CX0 5 T.f_law T.e_law ["_law_script"] (rSp K sp_law) := by
  refine fnT T.d_law.fn sc_law (fun ds M x k h => h.1) (by decide) (fun cdv A outer s H E rm => ?_) (fun ds M x k h => h)
  refine ⟨_, (yss_cons (ys_set (i := 1) sc_law.nd rfl (by first | exact Or.inl rfl | exact Or.inr rfl) (xcall (ok__law_pen T) (rm.mono (by decide)) (by rfl) T.d__law_pen.gl T.d__law_pen.fn.kp T.d__law_pen.bi pass0 (xa_cons (xv 0) xa_nil)))
      (yss_cons (ys_for PassesOwn.never rfl (xi_range1 (by rfl) T.m_range (xa_cons xint xa_nil)) (xg_name (i := 2) sc_law.nd rfl (by first | exact Or.inl rfl | exact Or.inr rfl)) (yss_cons (ys_par (i := 3) (j := 4) rfl sc_law.nd rfl rfl (by decide) rfl rfl (xa_cons (xe_ix (xcall (ok__law_names T) (rm.mono (by decide)) (by rfl) T.d__law_names.gl T.d__law_names.fn.kp T.d__law_names.bi pass0 (xa_cons (xv 1) (xa_cons xint xa_nil))) xint (fun _ _ => rfl)) (xa_cons (xcall (ok__law_rhythm T) (rm.mono (by decide)) (by rfl) T.d__law_rhythm.gl T.d__law_rhythm.fn.kp T.d__law_rhythm.bi pass0 (xa_cons (xv 1) xa_nil)) xa_nil)) (by rfl))
      (yss_cons (ys_set (i := 5) sc_law.nd rfl (by first | exact Or.inl rfl | exact Or.inr rfl) (xl_frz (xl_lst (xa_cons (xcall (ok__law_bent T) (rm.mono (by decide)) (by rfl) T.d__law_bent.gl T.d__law_bent.fn.kp T.d__law_bent.bi pass0 (xa_cons (xv 1) (xa_cons (xv 3) xa_nil))) (xa_cons (xcall (ok__law_bent T) (rm.mono (by decide)) (by rfl) T.d__law_bent.gl T.d__law_bent.fn.kp T.d__law_bent.bi pass0 (xa_cons (xv 1) (xa_cons (xv 4) xa_nil))) xa_nil)))))
      (yss_cons (ys_set (i := 6) sc_law.nd rfl (by first | exact Or.inl rfl | exact Or.inr rfl) (xl_frz (xl_lst (xa_cons (xv 3) (xa_cons (xv 4) (xa_cons (xe_op op_mulD l_mulD (xv 4) xint) (xa_cons (xe_op op_mulD l_mulD xstr xint) (xa_cons (xe_op op_mulD l_mulD xstr xint) (xa_cons (xe_op op_mulD l_mulD xstr xint) (xa_cons (xe_op op_mulD l_mulD (xv 3) xint) (xa_cons (xe_op op_mulD l_mulD xstr xint) (xa_cons (xcall (ok__law_odd T) (rm.mono (by decide)) (by rfl) T.d__law_odd.gl T.d__law_odd.fn.kp T.d__law_odd.bi pass0 (xa_cons (xv 1) xa_nil)) (xa_cons (xl_frz (xl_lst (xa_cons (xv 3) xa_nil))) xa_nil)))))))))))))
      (yss_cons (ys_for PassesOwn.never rfl (xi_list (xe_op op_addD l_addD (xe_op op_addD l_addD (xv 6) (xv 5)) (xl_frz (xl_lc (own := [("_law_one", 10)]) (g := gName 10) rfl sc_law.nd (xi_list (xv 5)) (blkOk_by (N := ["_law_script", "_law_pen_here", "_law_turn", "_law_name", "_law_rhythm_here", "_law_bent_here", "_law_things", "_law_thing", "_law_was_own", "_law_far", "_law_one"]) (sc := defScope s_law) (by decide +kernel)) (tg_name (by decide)) (fun _ _ _ _ _ => pg_name (i := 10) sc_law.nd rfl (Or.inl rfl)) (fun _ _ _ _ _ => xts_nil) (fun _ _ _ _ _ => (xcall (ok__law_bent T) (rm.mono (by decide)) (by rfl) T.d__law_bent.gl T.d__law_bent.fn.kp T.d__law_bent.bi pass0 (xa_cons (xv 1) (xa_cons (xv 10) xa_nil)))))))) (xg_name (i := 7) sc_law.nd rfl (by first | exact Or.inl rfl | exact Or.inr rfl)) (yss_cons (ys_set (i := 8) sc_law.nd rfl (by first | exact Or.inl rfl | exact Or.inr rfl) (xe_callB (call_repr rm) l_reprC (by rfl) T.m_repr (by decide +kernel) (xa_cons (xv 7) xa_nil)))
      (yss_one (ys_if (PW.pt (xw_or (xt_cmp (op_neE rm.u64) l_neE (xe_callB (call_repr rm) l_reprC (by rfl) T.m_repr (by decide +kernel) (xa_cons (xl_frz (xl_lst (xa_cons (xcall (ok_is_name T) (rm.mono (by decide)) (by rfl) T.d_is_name.gl T.d_is_name.fn.kp T.d_is_name.bi pass0 (xa_cons (xv 7) xa_nil)) (xa_cons (xcall (ok_is_rhythm T) (rm.mono (by decide)) (by rfl) T.d_is_rhythm.gl T.d_is_rhythm.fn.kp T.d_is_rhythm.bi pass0 (xa_cons (xv 7) xa_nil)) xa_nil)))) xa_nil)) (xe_callB (call_repr rm) l_reprC (by rfl) T.m_repr (by decide +kernel) (xa_cons (xcall (ok__law_truths T) (rm.mono (by decide)) (by rfl) T.d__law_truths.gl T.d__law_truths.fn.kp T.d__law_truths.bi pass0 (xa_cons (xv 7) xa_nil)) xa_nil)) (nomark _)) (xw_or1 (xt_cmp (op_neE rm.u64) l_neE (xe_callB (call_repr rm) l_reprC (by rfl) T.m_repr (by decide +kernel) (xa_cons (xv 7) xa_nil)) (xv 8) (nomark _))))) (yss_one (ys_ret xbl)) yss_nil))))
      (yss_cons (ys_set (i := 9) sc_law.nd rfl (by first | exact Or.inl rfl | exact Or.inr rfl) (xcall (ok__law_pick T) (rm.mono (by decide)) (by rfl) T.d__law_pick.gl T.d__law_pick.fn.kp T.d__law_pick.bi pass0 (xa_cons (xv 1) (xa_cons (xl_frz (xl_lst (xa_cons (xcall (ok__law_draw T) (rm.mono (by decide)) (by rfl) T.d__law_draw.gl T.d__law_draw.fn.kp T.d__law_draw.bi pass0 (xa_cons (xv 1) (xa_cons (xe_op op_sub l_subD (xe_op op_pow l_intD xint xint) xint) xa_nil))) (xa_cons xint (xa_cons (xe_op op_sub l_subD (xe_op op_pow l_intD xint xint) xint) xa_nil))))) xa_nil))))
      (yss_one (ys_if (PW.pt (xw_or (xt_cmp (op_neE rm.u64) l_neE (xcall (ok_times_of T) (rm.mono (by decide)) (by rfl) T.d_times_of.gl T.d_times_of.fn.kp T.d_times_of.bi pass0 (xa_cons (xv 4) (xa_cons xint xa_nil))) xint (nomark _)) (xw_or1 (xt_not (xt_tru (xcall (ok__law_counts T) (rm.mono (by decide)) (by rfl) T.d__law_counts.gl T.d__law_counts.fn.kp T.d__law_counts.bi pass0 (xa_cons (xv 4) (xa_cons (xv 9) xa_nil)))))))) (yss_one (ys_ret xbl)) yss_nil))))))))
      (yss_one (ys_ret xbl)))), ?_⟩
  intro ds M k h
  obtain ⟨-, cs, rfl, hk⟩ := h
  rw [show start0 ["_law_script", "_law_pen_here", "_law_turn", "_law_name", "_law_rhythm_here", "_law_bent_here", "_law_things", "_law_thing", "_law_was_own", "_law_far", "_law_one"] [D.fro (cs.map D.int)] = [some (.fro (cs.map D.int)), none, none, none, none, none, none, none, none, none, none] from rfl]
  simp only [TV.wSeq, TV.wIf, TV.wOr, TV.wNot, TV.wAnd, TV.wAndV, TV.wOrV, TV.wNotV, TV.wIfE, TV.wTru, TV.wCB, TV.wCons, TV.wVar, TV.wC, TV.wNil, TV.wTest, TV.wChain, TV.wRet, TV.wRetN, TV.wNext, TV.wSet, TV.wDrop, TV.wFrz, TV.wMut, TV.wDisp, TV.wTup, TV.wOp, TV.wCall, TV.wDget, TV.wDput, TV.wFor, TV.wLc, TV.wiL, TV.wiT, TV.wiS, TV.wiR1, TV.wiR2, TV.wiEnumS, TV.wiEnum, TV.wgName, TV.wgTup, TV.wgCons, TV.wgNil, TV.wPar, TV.wPar3, TV.wAsg, TV.wUn, TV.wBM, TV.wApp, TV.wSetI, TV.wListC, TV.wSlL, TV.wSlS, TV.wSlT, TV.wNo, TV.wPart, TV.wYes, TV.wRev, TV.wMelt, TV.wNever, TV.wipe0, TV.wDictM, TV.wDictF, TV.wDict0F, TV.wPairs, List.getElem?_cons_zero, List.getElem?_cons_succ, List.set_cons_zero, List.set_cons_succ, Option.some.injEq, exists_eq_left', exists_eq_left, List.cons.injEq, and_true, true_and, TV.D.str.injEq, TV.D.int.injEq, TV.D.bl.injEq, TV.D.lst.injEq, TV.D.tup.injEq, TV.D.obj.injEq, List.map_cons, List.map_nil, TV.cmpD, TV.subD, TV.intD, TV.inSD, TV.ninSD, TV.isND, TV.notND, TV.isBD, TV.divmodC, TV.absC, isiC', TV.len_str, TV.len_lst, TV.len_tup, TV.tru_bl, TV.tru_int, TV.tru_str, TV.tru_lst, TV.tru_tup, TV.add_int, TV.add_str, TV.add_lst, TV.add_tup, TV.mul_int, TV.mul_str, TV.ix_str, TV.ix_lst, TV.ix_tup, TV.count_str, TV.eq_str, TV.ne_str, TV.eq_int, TV.ne_int, TV.eq_lst, TV.ne_lst, TV.sgx, TV.vw_non, TV.vw_bl, TV.vw_int, TV.vw_str, TV.vw_tup, TV.vw_lst, TV.vw_fro, TV.vw_dct, TV.key_str, TV.key_int, false_or, or_false, List.length_nil, TV.ty_non, TV.ty_bl, TV.ty_int, TV.ty_str, TV.ty_tup, TV.ty_lst, TV.ty_dct, TV.tn_str, TV.tn_int, TV.tn_bool, TV.tn_list, TV.tn_tuple, TV.tn_dict, TV.isT, String.reduceBEq, Bool.and_false, Bool.or_false, Bool.false_and, Bool.and_true, Bool.true_or, Bool.or_true, and_assoc, TV.D.ty.injEq, reduceCtorEq, exists_const, exists_and_left, exists_and_right, if_true, if_false, Bool.not_true, Bool.not_false, Bool.false_eq_true, reduceIte]
  refine ⟨rfl, cs, rfl, fun p es hp pe => ?_⟩
  simp only [TV.wSeq, TV.wIf, TV.wOr, TV.wNot, TV.wAnd, TV.wAndV, TV.wOrV, TV.wNotV, TV.wIfE, TV.wTru, TV.wCB, TV.wCons, TV.wVar, TV.wC, TV.wNil, TV.wTest, TV.wChain, TV.wRet, TV.wRetN, TV.wNext, TV.wSet, TV.wDrop, TV.wFrz, TV.wMut, TV.wDisp, TV.wTup, TV.wOp, TV.wCall, TV.wDget, TV.wDput, TV.wFor, TV.wLc, TV.wiL, TV.wiT, TV.wiS, TV.wiR1, TV.wiR2, TV.wiEnumS, TV.wiEnum, TV.wgName, TV.wgTup, TV.wgCons, TV.wgNil, TV.wPar, TV.wPar3, TV.wAsg, TV.wUn, TV.wBM, TV.wApp, TV.wSetI, TV.wListC, TV.wSlL, TV.wSlS, TV.wSlT, TV.wNo, TV.wPart, TV.wYes, TV.wRev, TV.wMelt, TV.wNever, TV.wipe0, TV.wDictM, TV.wDictF, TV.wDict0F, TV.wPairs, List.getElem?_cons_zero, List.getElem?_cons_succ, List.set_cons_zero, List.set_cons_succ, Option.some.injEq, exists_eq_left', exists_eq_left, List.cons.injEq, and_true, true_and, TV.D.str.injEq, TV.D.int.injEq, TV.D.bl.injEq, TV.D.lst.injEq, TV.D.tup.injEq, TV.D.obj.injEq, List.map_cons, List.map_nil, TV.cmpD, TV.subD, TV.intD, TV.inSD, TV.ninSD, TV.isND, TV.notND, TV.isBD, TV.divmodC, TV.absC, isiC', TV.len_str, TV.len_lst, TV.len_tup, TV.tru_bl, TV.tru_int, TV.tru_str, TV.tru_lst, TV.tru_tup, TV.add_int, TV.add_str, TV.add_lst, TV.add_tup, TV.mul_int, TV.mul_str, TV.ix_str, TV.ix_lst, TV.ix_tup, TV.count_str, TV.eq_str, TV.ne_str, TV.eq_int, TV.ne_int, TV.eq_lst, TV.ne_lst, TV.sgx, TV.vw_non, TV.vw_bl, TV.vw_int, TV.vw_str, TV.vw_tup, TV.vw_lst, TV.vw_fro, TV.vw_dct, TV.key_str, TV.key_int, false_or, or_false, List.length_nil, TV.ty_non, TV.ty_bl, TV.ty_int, TV.ty_str, TV.ty_tup, TV.ty_lst, TV.ty_dct, TV.tn_str, TV.tn_int, TV.tn_bool, TV.tn_list, TV.tn_tuple, TV.tn_dict, TV.isT, String.reduceBEq, Bool.and_false, Bool.or_false, Bool.false_and, Bool.and_true, Bool.true_or, Bool.or_true, and_assoc, TV.D.ty.injEq, reduceCtorEq, exists_const, exists_and_left, exists_and_right, if_true, if_false, Bool.not_true, Bool.not_false, Bool.false_eq_true, reduceIte]
  refine ⟨by decide, by decide, fun i ρ M' => ∃ es' o2 o3 o4 o5 o6 o7 o8 o9 o10, penD (200 * i) es' ∧ M' = updM M p (.dct es') ∧ ρ = [some (.fro (cs.map D.int)), some (.obj p), o2, o3, o4, o5, o6, o7, o8, o9, o10], ⟨es, _, _, _, _, _, _, _, _, _, pe, rfl, rfl⟩, ?_, ?_⟩
  · rintro i d ρ M' hi ⟨es', o2, o3, o4, o5, o6, o7, o8, o9, o10, pe', rfl, rfl⟩
    obtain ⟨hlt, rfl⟩ := rng_get hi
    have hi6 : i < 6 := hlt
    simp only [TV.wSeq, TV.wIf, TV.wOr, TV.wNot, TV.wAnd, TV.wAndV, TV.wOrV, TV.wNotV, TV.wIfE, TV.wTru, TV.wCB, TV.wCons, TV.wVar, TV.wC, TV.wNil, TV.wTest, TV.wChain, TV.wRet, TV.wRetN, TV.wNext, TV.wSet, TV.wDrop, TV.wFrz, TV.wMut, TV.wDisp, TV.wTup, TV.wOp, TV.wCall, TV.wDget, TV.wDput, TV.wFor, TV.wLc, TV.wiL, TV.wiT, TV.wiS, TV.wiR1, TV.wiR2, TV.wiEnumS, TV.wiEnum, TV.wgName, TV.wgTup, TV.wgCons, TV.wgNil, TV.wPar, TV.wPar3, TV.wAsg, TV.wUn, TV.wBM, TV.wApp, TV.wSetI, TV.wListC, TV.wSlL, TV.wSlS, TV.wSlT, TV.wNo, TV.wPart, TV.wYes, TV.wRev, TV.wMelt, TV.wNever, TV.wipe0, TV.wDictM, TV.wDictF, TV.wDict0F, TV.wPairs, List.getElem?_cons_zero, List.getElem?_cons_succ, List.set_cons_zero, List.set_cons_succ, Option.some.injEq, exists_eq_left', exists_eq_left, List.cons.injEq, and_true, true_and, TV.D.str.injEq, TV.D.int.injEq, TV.D.bl.injEq, TV.D.lst.injEq, TV.D.tup.injEq, TV.D.obj.injEq, List.map_cons, List.map_nil, TV.cmpD, TV.subD, TV.intD, TV.inSD, TV.ninSD, TV.isND, TV.notND, TV.isBD, TV.divmodC, TV.absC, isiC', TV.len_str, TV.len_lst, TV.len_tup, TV.tru_bl, TV.tru_int, TV.tru_str, TV.tru_lst, TV.tru_tup, TV.add_int, TV.add_str, TV.add_lst, TV.add_tup, TV.mul_int, TV.mul_str, TV.ix_str, TV.ix_lst, TV.ix_tup, TV.count_str, TV.eq_str, TV.ne_str, TV.eq_int, TV.ne_int, TV.eq_lst, TV.ne_lst, TV.sgx, TV.vw_non, TV.vw_bl, TV.vw_int, TV.vw_str, TV.vw_tup, TV.vw_lst, TV.vw_fro, TV.vw_dct, TV.key_str, TV.key_int, false_or, or_false, List.length_nil, TV.ty_non, TV.ty_bl, TV.ty_int, TV.ty_str, TV.ty_tup, TV.ty_lst, TV.ty_dct, TV.tn_str, TV.tn_int, TV.tn_bool, TV.tn_list, TV.tn_tuple, TV.tn_dict, TV.isT, String.reduceBEq, Bool.and_false, Bool.or_false, Bool.false_and, Bool.and_true, Bool.true_or, Bool.or_true, and_assoc, TV.D.ty.injEq, reduceCtorEq, exists_const, exists_and_left, exists_and_right, if_true, if_false, Bool.not_true, Bool.not_false, Bool.false_eq_true, reduceIte]
    refine use_names pe' (by omega) (by decide) (by decide) fun ns es1 hn1 hn2 p1 => ?_
    obtain ⟨nm, rfl⟩ : ∃ nm, ns = [nm] := List.length_eq_one_iff.mp (by omega)
    have hnm := hn2 nm List.mem_cons_self
    simp only [TV.wSeq, TV.wIf, TV.wOr, TV.wNot, TV.wAnd, TV.wAndV, TV.wOrV, TV.wNotV, TV.wIfE, TV.wTru, TV.wCB, TV.wCons, TV.wVar, TV.wC, TV.wNil, TV.wTest, TV.wChain, TV.wRet, TV.wRetN, TV.wNext, TV.wSet, TV.wDrop, TV.wFrz, TV.wMut, TV.wDisp, TV.wTup, TV.wOp, TV.wCall, TV.wDget, TV.wDput, TV.wFor, TV.wLc, TV.wiL, TV.wiT, TV.wiS, TV.wiR1, TV.wiR2, TV.wiEnumS, TV.wiEnum, TV.wgName, TV.wgTup, TV.wgCons, TV.wgNil, TV.wPar, TV.wPar3, TV.wAsg, TV.wUn, TV.wBM, TV.wApp, TV.wSetI, TV.wListC, TV.wSlL, TV.wSlS, TV.wSlT, TV.wNo, TV.wPart, TV.wYes, TV.wRev, TV.wMelt, TV.wNever, TV.wipe0, TV.wDictM, TV.wDictF, TV.wDict0F, TV.wPairs, List.getElem?_cons_zero, List.getElem?_cons_succ, List.set_cons_zero, List.set_cons_succ, Option.some.injEq, exists_eq_left', exists_eq_left, List.cons.injEq, and_true, true_and, TV.D.str.injEq, TV.D.int.injEq, TV.D.bl.injEq, TV.D.lst.injEq, TV.D.tup.injEq, TV.D.obj.injEq, List.map_cons, List.map_nil, TV.cmpD, TV.subD, TV.intD, TV.inSD, TV.ninSD, TV.isND, TV.notND, TV.isBD, TV.divmodC, TV.absC, isiC', TV.len_str, TV.len_lst, TV.len_tup, TV.tru_bl, TV.tru_int, TV.tru_str, TV.tru_lst, TV.tru_tup, TV.add_int, TV.add_str, TV.add_lst, TV.add_tup, TV.mul_int, TV.mul_str, TV.ix_str, TV.ix_lst, TV.ix_tup, TV.count_str, TV.eq_str, TV.ne_str, TV.eq_int, TV.ne_int, TV.eq_lst, TV.ne_lst, TV.sgx, TV.vw_non, TV.vw_bl, TV.vw_int, TV.vw_str, TV.vw_tup, TV.vw_lst, TV.vw_fro, TV.vw_dct, TV.key_str, TV.key_int, false_or, or_false, List.length_nil, TV.ty_non, TV.ty_bl, TV.ty_int, TV.ty_str, TV.ty_tup, TV.ty_lst, TV.ty_dct, TV.tn_str, TV.tn_int, TV.tn_bool, TV.tn_list, TV.tn_tuple, TV.tn_dict, TV.isT, String.reduceBEq, Bool.and_false, Bool.or_false, Bool.false_and, Bool.and_true, Bool.true_or, Bool.or_true, and_assoc, TV.D.ty.injEq, reduceCtorEq, exists_const, exists_and_left, exists_and_right, if_true, if_false, Bool.not_true, Bool.not_false, Bool.false_eq_true, reduceIte]
    refine ⟨_, rfl, ?_⟩
    refine use_rhythm p1 (by omega) fun z es2 hz p2 => ?_
    simp only [TV.wSeq, TV.wIf, TV.wOr, TV.wNot, TV.wAnd, TV.wAndV, TV.wOrV, TV.wNotV, TV.wIfE, TV.wTru, TV.wCB, TV.wCons, TV.wVar, TV.wC, TV.wNil, TV.wTest, TV.wChain, TV.wRet, TV.wRetN, TV.wNext, TV.wSet, TV.wDrop, TV.wFrz, TV.wMut, TV.wDisp, TV.wTup, TV.wOp, TV.wCall, TV.wDget, TV.wDput, TV.wFor, TV.wLc, TV.wiL, TV.wiT, TV.wiS, TV.wiR1, TV.wiR2, TV.wiEnumS, TV.wiEnum, TV.wgName, TV.wgTup, TV.wgCons, TV.wgNil, TV.wPar, TV.wPar3, TV.wAsg, TV.wUn, TV.wBM, TV.wApp, TV.wSetI, TV.wListC, TV.wSlL, TV.wSlS, TV.wSlT, TV.wNo, TV.wPart, TV.wYes, TV.wRev, TV.wMelt, TV.wNever, TV.wipe0, TV.wDictM, TV.wDictF, TV.wDict0F, TV.wPairs, List.getElem?_cons_zero, List.getElem?_cons_succ, List.set_cons_zero, List.set_cons_succ, Option.some.injEq, exists_eq_left', exists_eq_left, List.cons.injEq, and_true, true_and, TV.D.str.injEq, TV.D.int.injEq, TV.D.bl.injEq, TV.D.lst.injEq, TV.D.tup.injEq, TV.D.obj.injEq, List.map_cons, List.map_nil, TV.cmpD, TV.subD, TV.intD, TV.inSD, TV.ninSD, TV.isND, TV.notND, TV.isBD, TV.divmodC, TV.absC, isiC', TV.len_str, TV.len_lst, TV.len_tup, TV.tru_bl, TV.tru_int, TV.tru_str, TV.tru_lst, TV.tru_tup, TV.add_int, TV.add_str, TV.add_lst, TV.add_tup, TV.mul_int, TV.mul_str, TV.ix_str, TV.ix_lst, TV.ix_tup, TV.count_str, TV.eq_str, TV.ne_str, TV.eq_int, TV.ne_int, TV.eq_lst, TV.ne_lst, TV.sgx, TV.vw_non, TV.vw_bl, TV.vw_int, TV.vw_str, TV.vw_tup, TV.vw_lst, TV.vw_fro, TV.vw_dct, TV.key_str, TV.key_int, false_or, or_false, List.length_nil, TV.ty_non, TV.ty_bl, TV.ty_int, TV.ty_str, TV.ty_tup, TV.ty_lst, TV.ty_dct, TV.tn_str, TV.tn_int, TV.tn_bool, TV.tn_list, TV.tn_tuple, TV.tn_dict, TV.isT, String.reduceBEq, Bool.and_false, Bool.or_false, Bool.false_and, Bool.and_true, Bool.true_or, Bool.or_true, and_assoc, TV.D.ty.injEq, reduceCtorEq, exists_const, exists_and_left, exists_and_right, if_true, if_false, Bool.not_true, Bool.not_false, Bool.false_eq_true, reduceIte]
    refine use_bent p2 (by omega) (by have := hnm.2.1; omega) (ok_lat hnm) fun b1 es3 hb1 lb1 p3 => ?_
    refine use_bent p3 (by omega) (by have := hz.2.1; omega) (rh_lat hz) fun b2 es4 hb2 lb2 p4 => ?_
    have n8 := hnm.2.1
    have z6 := hz.2.1
    have lx : ("x" : Str).length = 1 := by decide +kernel
    have ly : ("-" : Str).length = 1 := by decide +kernel
    have lxy : ("x-" : Str).length = 2 := by decide +kernel
    refine ⟨(show 2 ≤ 100000 by decide), by decide, by decide, by show _ * 2 ≤ _; omega, by decide, by decide, by decide +kernel, by decide, by decide, by decide +kernel, by decide, by decide, by decide +kernel, by decide, by decide, by show _ * 400 ≤ _; omega, by decide, by decide, by decide +kernel, ?_⟩
    refine use_odd p4 (by omega) fun od es5 hod p5 => ?_
    refine ⟨(show 1 ≤ 100000 by decide), (show 10 ≤ 100000 by decide), (show 10 + 2 ≤ 100000 by decide), (show 2 ≤ 100000 by decide), ?_⟩
    have gs : ∀ y : Str, lat y → y.length ≤ 30 → good (.str y) := fun y hy hl => good_str hy (by omega)
    refine ⟨fun j acc M' => ∃ es', (∀ d ∈ acc, good d) ∧ acc.length = j ∧ penD (200 * i + 30 + 4 * j) es' ∧ M' = updM M p (.dct es'), ⟨es5, by simp, rfl, p5.up (by omega), rfl⟩, ?_, ?_⟩
    · rintro j d acc M' hj ⟨es6, ga, la, p6, rfl⟩
      have hj2 : j < 2 := (List.getElem?_eq_some_iff.mp hj).1
      have hm := List.mem_of_getElem? hj
      simp only [List.mem_cons, List.not_mem_nil, or_false] at hm
      obtain ⟨y, rfl, hy1, hy2⟩ : ∃ y, d = .str y ∧ lat y ∧ y.length ≤ 16 := by
        rcases hm with h | h
        · exact ⟨b1, h, lb1, by omega⟩
        · exact ⟨b2, h, lb2, by omega⟩
      refine use_bent p6 (by omega) (by omega) hy1 fun y' es7 hy3 hy4 p7 => ?_
      refine ⟨es7, fun d hd => ?_, by simp [la], p7.up (by omega), rfl⟩
      rcases List.mem_append.mp hd with hd | hd
      · exact ga d hd
      · rw [List.mem_singleton.mp hd]; exact gs y' hy4 (by omega)
    · rintro acc M' ⟨es6, ga, la, p6, rfl⟩
      have gL : ∀ d ∈ [D.str nm, D.str z, D.str (Txt.mul z 2), D.str (Txt.mul "x" 6), D.str (Txt.mul "x" 7), D.str (Txt.mul "-" 6), D.str (Txt.mul nm 400), D.str (Txt.mul "x-" 2000), od, D.lst [D.str nm]] ++ [D.str b1, D.str b2] ++ acc, good d := by
        have l1 : lat "x" := lat_dec _ (by decide +kernel)
        have l2 : lat "-" := lat_dec _ (by decide +kernel)
        have l3 : lat "x-" := lat_dec _ (by decide +kernel)
        intro d hd
        rcases List.mem_append.mp hd with hd | hd
        · simp only [List.cons_append, List.nil_append, List.mem_cons, List.not_mem_nil, or_false] at hd
          rcases hd with h | h | h | h | h | h | h | h | h | h | h | h <;> subst h
          · exact gs _ (ok_lat hnm) (by omega)
          · exact gs _ (rh_lat hz) (by omega)
          · exact good_mul (rh_lat hz) (by decide) (by show _ * 2 ≤ _; omega)
          · exact good_mul l1 (by decide) (by show _ * 6 ≤ _; omega)
          · exact good_mul l1 (by decide) (by show _ * 7 ≤ _; omega)
          · exact good_mul l2 (by decide) (by show _ * 6 ≤ _; omega)
          · exact good_mul (ok_lat hnm) (by decide) (by show _ * 400 ≤ _; omega)
          · exact good_mul l3 (by decide) (by show _ * 2000 ≤ _; omega)
          · exact good_odd _ hod
          · exact good_lst1 (ok_lat hnm) (by omega)
          · exact gs _ lb1 (by omega)
          · exact gs _ lb2 (by omega)
        · exact ga d hd
      have la2 : acc.length = 2 := la
      refine ⟨(by show 12 + acc.length ≤ 100000; omega), ?_⟩
      generalize hLL : [D.str nm, D.str z, D.str (Txt.mul z 2), D.str (Txt.mul "x" 6), D.str (Txt.mul "x" 7), D.str (Txt.mul "-" 6), D.str (Txt.mul nm 400), D.str (Txt.mul "x-" 2000), od, D.lst [D.str nm]] ++ [D.str b1, D.str b2] ++ acc = L at gL ⊢
      generalize [D.str nm, D.str z, D.str (Txt.mul z 2), D.str (Txt.mul "x" 6), D.str (Txt.mul "x" 7), D.str (Txt.mul "-" 6), D.str (Txt.mul nm 400), D.str (Txt.mul "x-" 2000), od, D.lst [D.str nm]] = L0
      refine ⟨fun j ρ M' => M' = updM M p (.dct es6) ∧ ∃ u7 u8, ρ = [some (.fro (cs.map D.int)), some (.obj p), some (.int (0 + (i : Int))), some (.str nm), some (.str z), some (.lst [.str b1, .str b2]), some (.lst L0), u7, u8, o9, o10], ⟨rfl, _, _, rfl⟩, ?_, ?_⟩
      · rintro j d ρ M' hj ⟨rfl, u7, u8, rfl⟩
        obtain ⟨q, gq⟩ := gL d (List.mem_of_getElem? hj)
        simp only [TV.wSeq, TV.wIf, TV.wOr, TV.wNot, TV.wAnd, TV.wAndV, TV.wOrV, TV.wNotV, TV.wIfE, TV.wTru, TV.wCB, TV.wCons, TV.wVar, TV.wC, TV.wNil, TV.wTest, TV.wChain, TV.wRet, TV.wRetN, TV.wNext, TV.wSet, TV.wDrop, TV.wFrz, TV.wMut, TV.wDisp, TV.wTup, TV.wOp, TV.wCall, TV.wDget, TV.wDput, TV.wFor, TV.wLc, TV.wiL, TV.wiT, TV.wiS, TV.wiR1, TV.wiR2, TV.wiEnumS, TV.wiEnum, TV.wgName, TV.wgTup, TV.wgCons, TV.wgNil, TV.wPar, TV.wPar3, TV.wAsg, TV.wUn, TV.wBM, TV.wApp, TV.wSetI, TV.wListC, TV.wSlL, TV.wSlS, TV.wSlT, TV.wNo, TV.wPart, TV.wYes, TV.wRev, TV.wMelt, TV.wNever, TV.wipe0, TV.wDictM, TV.wDictF, TV.wDict0F, TV.wPairs, List.getElem?_cons_zero, List.getElem?_cons_succ, List.set_cons_zero, List.set_cons_succ, Option.some.injEq, exists_eq_left', exists_eq_left, List.cons.injEq, and_true, true_and, TV.D.str.injEq, TV.D.int.injEq, TV.D.bl.injEq, TV.D.lst.injEq, TV.D.tup.injEq, TV.D.obj.injEq, List.map_cons, List.map_nil, TV.cmpD, TV.subD, TV.intD, TV.inSD, TV.ninSD, TV.isND, TV.notND, TV.isBD, TV.divmodC, TV.absC, isiC', TV.len_str, TV.len_lst, TV.len_tup, TV.tru_bl, TV.tru_int, TV.tru_str, TV.tru_lst, TV.tru_tup, TV.add_int, TV.add_str, TV.add_lst, TV.add_tup, TV.mul_int, TV.mul_str, TV.ix_str, TV.ix_lst, TV.ix_tup, TV.count_str, TV.eq_str, TV.ne_str, TV.eq_int, TV.ne_int, TV.eq_lst, TV.ne_lst, TV.sgx, TV.vw_non, TV.vw_bl, TV.vw_int, TV.vw_str, TV.vw_tup, TV.vw_lst, TV.vw_fro, TV.vw_dct, TV.key_str, TV.key_int, false_or, or_false, List.length_nil, TV.ty_non, TV.ty_bl, TV.ty_int, TV.ty_str, TV.ty_tup, TV.ty_lst, TV.ty_dct, TV.tn_str, TV.tn_int, TV.tn_bool, TV.tn_list, TV.tn_tuple, TV.tn_dict, TV.isT, String.reduceBEq, Bool.and_false, Bool.or_false, Bool.false_and, Bool.and_true, Bool.true_or, Bool.or_true, and_assoc, TV.D.ty.injEq, reduceCtorEq, exists_const, exists_and_left, exists_and_right, if_true, if_false, Bool.not_true, Bool.not_false, Bool.false_eq_true, reduceIte]
        refine repr_good gq ?_
        refine ⟨rfl, d, rfl, gq.1.sane, ?_⟩
        refine ⟨rfl, d, rfl, gq.1.sane, (show 2 ≤ 100000 by decide), repr_bb ?_⟩
        refine ⟨rfl, d, rfl, gq.1, repr_bb ?_⟩
        simp only [TV.wSeq, TV.wIf, TV.wOr, TV.wNot, TV.wAnd, TV.wAndV, TV.wOrV, TV.wNotV, TV.wIfE, TV.wTru, TV.wCB, TV.wCons, TV.wVar, TV.wC, TV.wNil, TV.wTest, TV.wChain, TV.wRet, TV.wRetN, TV.wNext, TV.wSet, TV.wDrop, TV.wFrz, TV.wMut, TV.wDisp, TV.wTup, TV.wOp, TV.wCall, TV.wDget, TV.wDput, TV.wFor, TV.wLc, TV.wiL, TV.wiT, TV.wiS, TV.wiR1, TV.wiR2, TV.wiEnumS, TV.wiEnum, TV.wgName, TV.wgTup, TV.wgCons, TV.wgNil, TV.wPar, TV.wPar3, TV.wAsg, TV.wUn, TV.wBM, TV.wApp, TV.wSetI, TV.wListC, TV.wSlL, TV.wSlS, TV.wSlT, TV.wNo, TV.wPart, TV.wYes, TV.wRev, TV.wMelt, TV.wNever, TV.wipe0, TV.wDictM, TV.wDictF, TV.wDict0F, TV.wPairs, List.getElem?_cons_zero, List.getElem?_cons_succ, List.set_cons_zero, List.set_cons_succ, Option.some.injEq, exists_eq_left', exists_eq_left, List.cons.injEq, and_true, true_and, TV.D.str.injEq, TV.D.int.injEq, TV.D.bl.injEq, TV.D.lst.injEq, TV.D.tup.injEq, TV.D.obj.injEq, List.map_cons, List.map_nil, TV.cmpD, TV.subD, TV.intD, TV.inSD, TV.ninSD, TV.isND, TV.notND, TV.isBD, TV.divmodC, TV.absC, isiC', TV.len_str, TV.len_lst, TV.len_tup, TV.tru_bl, TV.tru_int, TV.tru_str, TV.tru_lst, TV.tru_tup, TV.add_int, TV.add_str, TV.add_lst, TV.add_tup, TV.mul_int, TV.mul_str, TV.ix_str, TV.ix_lst, TV.ix_tup, TV.count_str, TV.eq_str, TV.ne_str, TV.eq_int, TV.ne_int, TV.eq_lst, TV.ne_lst, TV.sgx, TV.vw_non, TV.vw_bl, TV.vw_int, TV.vw_str, TV.vw_tup, TV.vw_lst, TV.vw_fro, TV.vw_dct, TV.key_str, TV.key_int, false_or, or_false, List.length_nil, TV.ty_non, TV.ty_bl, TV.ty_int, TV.ty_str, TV.ty_tup, TV.ty_lst, TV.ty_dct, TV.tn_str, TV.tn_int, TV.tn_bool, TV.tn_list, TV.tn_tuple, TV.tn_dict, TV.isT, String.reduceBEq, Bool.and_false, Bool.or_false, Bool.false_and, Bool.and_true, Bool.true_or, Bool.or_true, and_assoc, TV.D.ty.injEq, reduceCtorEq, exists_const, exists_and_left, exists_and_right, if_true, if_false, Bool.not_true, Bool.not_false, Bool.false_eq_true, reduceIte]
        rw [if_neg (by simp)]
        refine repr_good gq ?_
        simp only [TV.wSeq, TV.wIf, TV.wOr, TV.wNot, TV.wAnd, TV.wAndV, TV.wOrV, TV.wNotV, TV.wIfE, TV.wTru, TV.wCB, TV.wCons, TV.wVar, TV.wC, TV.wNil, TV.wTest, TV.wChain, TV.wRet, TV.wRetN, TV.wNext, TV.wSet, TV.wDrop, TV.wFrz, TV.wMut, TV.wDisp, TV.wTup, TV.wOp, TV.wCall, TV.wDget, TV.wDput, TV.wFor, TV.wLc, TV.wiL, TV.wiT, TV.wiS, TV.wiR1, TV.wiR2, TV.wiEnumS, TV.wiEnum, TV.wgName, TV.wgTup, TV.wgCons, TV.wgNil, TV.wPar, TV.wPar3, TV.wAsg, TV.wUn, TV.wBM, TV.wApp, TV.wSetI, TV.wListC, TV.wSlL, TV.wSlS, TV.wSlT, TV.wNo, TV.wPart, TV.wYes, TV.wRev, TV.wMelt, TV.wNever, TV.wipe0, TV.wDictM, TV.wDictF, TV.wDict0F, TV.wPairs, List.getElem?_cons_zero, List.getElem?_cons_succ, List.set_cons_zero, List.set_cons_succ, Option.some.injEq, exists_eq_left', exists_eq_left, List.cons.injEq, and_true, true_and, TV.D.str.injEq, TV.D.int.injEq, TV.D.bl.injEq, TV.D.lst.injEq, TV.D.tup.injEq, TV.D.obj.injEq, List.map_cons, List.map_nil, TV.cmpD, TV.subD, TV.intD, TV.inSD, TV.ninSD, TV.isND, TV.notND, TV.isBD, TV.divmodC, TV.absC, isiC', TV.len_str, TV.len_lst, TV.len_tup, TV.tru_bl, TV.tru_int, TV.tru_str, TV.tru_lst, TV.tru_tup, TV.add_int, TV.add_str, TV.add_lst, TV.add_tup, TV.mul_int, TV.mul_str, TV.ix_str, TV.ix_lst, TV.ix_tup, TV.count_str, TV.eq_str, TV.ne_str, TV.eq_int, TV.ne_int, TV.eq_lst, TV.ne_lst, TV.sgx, TV.vw_non, TV.vw_bl, TV.vw_int, TV.vw_str, TV.vw_tup, TV.vw_lst, TV.vw_fro, TV.vw_dct, TV.key_str, TV.key_int, false_or, or_false, List.length_nil, TV.ty_non, TV.ty_bl, TV.ty_int, TV.ty_str, TV.ty_tup, TV.ty_lst, TV.ty_dct, TV.tn_str, TV.tn_int, TV.tn_bool, TV.tn_list, TV.tn_tuple, TV.tn_dict, TV.isT, String.reduceBEq, Bool.and_false, Bool.or_false, Bool.false_and, Bool.and_true, Bool.true_or, Bool.or_true, and_assoc, TV.D.ty.injEq, reduceCtorEq, exists_const, exists_and_left, exists_and_right, if_true, if_false, Bool.not_true, Bool.not_false, Bool.false_eq_true, reduceIte]
        rw [if_neg (by simp)]
        exact ⟨_, rfl⟩
      · rintro ρ M' ⟨rfl, u7, u8, rfl⟩
        simp only [TV.wSeq, TV.wIf, TV.wOr, TV.wNot, TV.wAnd, TV.wAndV, TV.wOrV, TV.wNotV, TV.wIfE, TV.wTru, TV.wCB, TV.wCons, TV.wVar, TV.wC, TV.wNil, TV.wTest, TV.wChain, TV.wRet, TV.wRetN, TV.wNext, TV.wSet, TV.wDrop, TV.wFrz, TV.wMut, TV.wDisp, TV.wTup, TV.wOp, TV.wCall, TV.wDget, TV.wDput, TV.wFor, TV.wLc, TV.wiL, TV.wiT, TV.wiS, TV.wiR1, TV.wiR2, TV.wiEnumS, TV.wiEnum, TV.wgName, TV.wgTup, TV.wgCons, TV.wgNil, TV.wPar, TV.wPar3, TV.wAsg, TV.wUn, TV.wBM, TV.wApp, TV.wSetI, TV.wListC, TV.wSlL, TV.wSlS, TV.wSlT, TV.wNo, TV.wPart, TV.wYes, TV.wRev, TV.wMelt, TV.wNever, TV.wipe0, TV.wDictM, TV.wDictF, TV.wDict0F, TV.wPairs, List.getElem?_cons_zero, List.getElem?_cons_succ, List.set_cons_zero, List.set_cons_succ, Option.some.injEq, exists_eq_left', exists_eq_left, List.cons.injEq, and_true, true_and, TV.D.str.injEq, TV.D.int.injEq, TV.D.bl.injEq, TV.D.lst.injEq, TV.D.tup.injEq, TV.D.obj.injEq, List.map_cons, List.map_nil, TV.cmpD, TV.subD, TV.intD, TV.inSD, TV.ninSD, TV.isND, TV.notND, TV.isBD, TV.divmodC, TV.absC, isiC', TV.len_str, TV.len_lst, TV.len_tup, TV.tru_bl, TV.tru_int, TV.tru_str, TV.tru_lst, TV.tru_tup, TV.add_int, TV.add_str, TV.add_lst, TV.add_tup, TV.mul_int, TV.mul_str, TV.ix_str, TV.ix_lst, TV.ix_tup, TV.count_str, TV.eq_str, TV.ne_str, TV.eq_int, TV.ne_int, TV.eq_lst, TV.ne_lst, TV.sgx, TV.vw_non, TV.vw_bl, TV.vw_int, TV.vw_str, TV.vw_tup, TV.vw_lst, TV.vw_fro, TV.vw_dct, TV.key_str, TV.key_int, false_or, or_false, List.length_nil, TV.ty_non, TV.ty_bl, TV.ty_int, TV.ty_str, TV.ty_tup, TV.ty_lst, TV.ty_dct, TV.tn_str, TV.tn_int, TV.tn_bool, TV.tn_list, TV.tn_tuple, TV.tn_dict, TV.isT, String.reduceBEq, Bool.and_false, Bool.or_false, Bool.false_and, Bool.and_true, Bool.true_or, Bool.or_true, and_assoc, TV.D.ty.injEq, reduceCtorEq, exists_const, exists_and_left, exists_and_right, if_true, if_false, Bool.not_true, Bool.not_false, Bool.false_eq_true, reduceIte]
        have c60 : CPow 10 60 := ⟨by decide, by decide, by decide⟩
        have big : (10 : Int) ^ Int.toNat 60 = 1000000000000000000000000000000000000000000000000000000000000 := by decide
        have big' : (10 : Int) ^ 60 = 1000000000000000000000000000000000000000000000000000000000000 := by decide
        have lt1 : ∀ {m : Int}, m < 100000000000000000000000000000000000000000000000000000000000000 → m < 2 ^ 1000 := fun h => Int.lt_trans h (by decide +kernel)
        have p6' : penD (200 * i + 38) es6 := p6
        refine ⟨c60, ?_⟩
        rw [big]
        refine use_draw p6' (by omega) (by omega) (lt1 (by omega)) fun r es7 r0 r1 p7 => ?_
        refine ⟨c60, (show 3 ≤ 100000 by decide), ?_⟩
        refine use_pick p7 (by omega) rfl (show 1 ≤ 3 by decide) (show 3 ≤ 100000 by decide) fun dfar es8 hd p8 => ?_
        obtain ⟨far, rfl, f0, f1⟩ : ∃ far : Int, dfar = .int far ∧ 0 ≤ far ∧ far ≤ 10 ^ 60 := by
          simp only [List.mem_cons, List.not_mem_nil, or_false] at hd
          rcases hd with h | h | h
          · exact ⟨_, h, r0, by omega⟩
          · exact ⟨_, h, by omega, by omega⟩
          · exact ⟨_, h, by omega, by omega⟩
        obtain ⟨t0, c0, c6⟩ := rh_six hz
        refine ⟨rfl, z, _, rfl, hz.1, by omega, c0, by omega, by omega, by decide +kernel, ?_⟩
        rw [t0]
        simp only [TV.wSeq, TV.wIf, TV.wOr, TV.wNot, TV.wAnd, TV.wAndV, TV.wOrV, TV.wNotV, TV.wIfE, TV.wTru, TV.wCB, TV.wCons, TV.wVar, TV.wC, TV.wNil, TV.wTest, TV.wChain, TV.wRet, TV.wRetN, TV.wNext, TV.wSet, TV.wDrop, TV.wFrz, TV.wMut, TV.wDisp, TV.wTup, TV.wOp, TV.wCall, TV.wDget, TV.wDput, TV.wFor, TV.wLc, TV.wiL, TV.wiT, TV.wiS, TV.wiR1, TV.wiR2, TV.wiEnumS, TV.wiEnum, TV.wgName, TV.wgTup, TV.wgCons, TV.wgNil, TV.wPar, TV.wPar3, TV.wAsg, TV.wUn, TV.wBM, TV.wApp, TV.wSetI, TV.wListC, TV.wSlL, TV.wSlS, TV.wSlT, TV.wNo, TV.wPart, TV.wYes, TV.wRev, TV.wMelt, TV.wNever, TV.wipe0, TV.wDictM, TV.wDictF, TV.wDict0F, TV.wPairs, List.getElem?_cons_zero, List.getElem?_cons_succ, List.set_cons_zero, List.set_cons_succ, Option.some.injEq, exists_eq_left', exists_eq_left, List.cons.injEq, and_true, true_and, TV.D.str.injEq, TV.D.int.injEq, TV.D.bl.injEq, TV.D.lst.injEq, TV.D.tup.injEq, TV.D.obj.injEq, List.map_cons, List.map_nil, TV.cmpD, TV.subD, TV.intD, TV.inSD, TV.ninSD, TV.isND, TV.notND, TV.isBD, TV.divmodC, TV.absC, isiC', TV.len_str, TV.len_lst, TV.len_tup, TV.tru_bl, TV.tru_int, TV.tru_str, TV.tru_lst, TV.tru_tup, TV.add_int, TV.add_str, TV.add_lst, TV.add_tup, TV.mul_int, TV.mul_str, TV.ix_str, TV.ix_lst, TV.ix_tup, TV.count_str, TV.eq_str, TV.ne_str, TV.eq_int, TV.ne_int, TV.eq_lst, TV.ne_lst, TV.sgx, TV.vw_non, TV.vw_bl, TV.vw_int, TV.vw_str, TV.vw_tup, TV.vw_lst, TV.vw_fro, TV.vw_dct, TV.key_str, TV.key_int, false_or, or_false, List.length_nil, TV.ty_non, TV.ty_bl, TV.ty_int, TV.ty_str, TV.ty_tup, TV.ty_lst, TV.ty_dct, TV.tn_str, TV.tn_int, TV.tn_bool, TV.tn_list, TV.tn_tuple, TV.tn_dict, TV.isT, String.reduceBEq, Bool.and_false, Bool.or_false, Bool.false_and, Bool.and_true, Bool.true_or, Bool.or_true, and_assoc, TV.D.ty.injEq, reduceCtorEq, exists_const, exists_and_left, exists_and_right, if_true, if_false, Bool.not_true, Bool.not_false, Bool.false_eq_true, reduceIte]
        rw [if_neg (by simp)]
        refine ⟨rfl, z, far, rfl, hz, f0, f1, ?_⟩
        simp only [TV.wSeq, TV.wIf, TV.wOr, TV.wNot, TV.wAnd, TV.wAndV, TV.wOrV, TV.wNotV, TV.wIfE, TV.wTru, TV.wCB, TV.wCons, TV.wVar, TV.wC, TV.wNil, TV.wTest, TV.wChain, TV.wRet, TV.wRetN, TV.wNext, TV.wSet, TV.wDrop, TV.wFrz, TV.wMut, TV.wDisp, TV.wTup, TV.wOp, TV.wCall, TV.wDget, TV.wDput, TV.wFor, TV.wLc, TV.wiL, TV.wiT, TV.wiS, TV.wiR1, TV.wiR2, TV.wiEnumS, TV.wiEnum, TV.wgName, TV.wgTup, TV.wgCons, TV.wgNil, TV.wPar, TV.wPar3, TV.wAsg, TV.wUn, TV.wBM, TV.wApp, TV.wSetI, TV.wListC, TV.wSlL, TV.wSlS, TV.wSlT, TV.wNo, TV.wPart, TV.wYes, TV.wRev, TV.wMelt, TV.wNever, TV.wipe0, TV.wDictM, TV.wDictF, TV.wDict0F, TV.wPairs, List.getElem?_cons_zero, List.getElem?_cons_succ, List.set_cons_zero, List.set_cons_succ, Option.some.injEq, exists_eq_left', exists_eq_left, List.cons.injEq, and_true, true_and, TV.D.str.injEq, TV.D.int.injEq, TV.D.bl.injEq, TV.D.lst.injEq, TV.D.tup.injEq, TV.D.obj.injEq, List.map_cons, List.map_nil, TV.cmpD, TV.subD, TV.intD, TV.inSD, TV.ninSD, TV.isND, TV.notND, TV.isBD, TV.divmodC, TV.absC, isiC', TV.len_str, TV.len_lst, TV.len_tup, TV.tru_bl, TV.tru_int, TV.tru_str, TV.tru_lst, TV.tru_tup, TV.add_int, TV.add_str, TV.add_lst, TV.add_tup, TV.mul_int, TV.mul_str, TV.ix_str, TV.ix_lst, TV.ix_tup, TV.count_str, TV.eq_str, TV.ne_str, TV.eq_int, TV.ne_int, TV.eq_lst, TV.ne_lst, TV.sgx, TV.vw_non, TV.vw_bl, TV.vw_int, TV.vw_str, TV.vw_tup, TV.vw_lst, TV.vw_fro, TV.vw_dct, TV.key_str, TV.key_int, false_or, or_false, List.length_nil, TV.ty_non, TV.ty_bl, TV.ty_int, TV.ty_str, TV.ty_tup, TV.ty_lst, TV.ty_dct, TV.tn_str, TV.tn_int, TV.tn_bool, TV.tn_list, TV.tn_tuple, TV.tn_dict, TV.isT, String.reduceBEq, Bool.and_false, Bool.or_false, Bool.false_and, Bool.and_true, Bool.true_or, Bool.or_true, and_assoc, TV.D.ty.injEq, reduceCtorEq, exists_const, exists_and_left, exists_and_right, if_true, if_false, Bool.not_true, Bool.not_false, Bool.false_eq_true, reduceIte]
        exact ⟨es8, p8.up (by omega), rfl, _, rfl⟩
  · rintro ρ M' ⟨es', o2, o3, o4, o5, o6, o7, o8, o9, o10, pe', rfl, rfl⟩
    exact hk _
end
end K01

set_option Elab.async false
set_option linter.all false
set_option maxRecDepth 100000
set_option maxHeartbeats 4000000
namespace K01
open PySem PySem.Spec PyProof.Rows L2 TV
/-! ### what the top has written -/
theorem all_mk {l : PySem.W.OpenLaw} {w : World} {K : PySem.W.Frag} {h : Heap} {mg : Str → Option Value} {fa f0 f1 f2 f3 f4 f5 f6 f7 f8 f9 f10 f11 f12 f13 f14 f15 f16 f17 : Addr} (X : K.In h) (G : h.Ns mainGlobals mg) (hfa : mg "law" = some (.ref fa))
    {od0 an0 od1 an1 od2 an2 od3 an3 od4 an4 od5 an5 od6 an6 od7 an7 od8 an8 od9 an9 od10 an10 od11 an11 od12 an12 od13 an13 od14 an14 od15 an15 od16 an16 od17 an17 : Option Addr} {sl0 sl1 sl2 sl3 sl4 sl5 sl6 sl7 sl8 sl9 sl10 sl11 sl12 sl13 sl14 sl15 sl16 sl17 : Array (Option Value)} {oc0 kV0 dc0 pm0 cd0 ct0 oc1 kV1 dc1 pm1 cd1 ct1 oc2 kV2 dc2 pm2 cd2 ct2 oc3 kV3 dc3 pm3 cd3 ct3 oc4 kV4 dc4 pm4 cd4 ct4 oc5 kV5 dc5 pm5 cd5 ct5 oc6 kV6 dc6 pm6 cd6 ct6 oc7 kV7 dc7 pm7 cd7 ct7 oc8 kV8 dc8 pm8 cd8 ct8 oc9 kV9 dc9 pm9 cd9 ct9 oc10 kV10 dc10 pm10 cd10 ct10 oc11 kV11 dc11 pm11 cd11 ct11 oc12 kV12 dc12 pm12 cd12 ct12 oc13 kV13 dc13 pm13 cd13 ct13 oc14 kV14 dc14 pm14 cd14 ct14 oc15 kV15 dc15 pm15 cd15 ct15 oc16 kV16 dc16 pm16 cd16 ct16 oc17 kV17 dc17 pm17 cd17 ct17 : Value} {t_LETTERS t_LONGEST_NAME t_LONGEST_RHYTHM : Tok}
    (a0 : PySem.W.nsIn K mainGlobals "is_made_of" = some (some (.ref f0))) (l0 : K.lookup f0 = some ⟨oc0, od0, .func (PySem.W.fnOf "is_made_of" "is_made_of" (defArgs s_is_made_of) (defBody s_is_made_of) (defScope s_is_made_of) .none kV0 dc0 pm0 an0 cd0 ct0), sl0⟩) (c0 : PySem.W.codeIn K cd0 "is_made_of" = true) (k0 : PySem.W.keepIn K (.ref f0) = true)
    (a1 : PySem.W.nsIn K mainGlobals "is_name" = some (some (.ref f1))) (l1 : K.lookup f1 = some ⟨oc1, od1, .func (PySem.W.fnOf "is_name" "is_name" (defArgs s_is_name) (defBody s_is_name) (defScope s_is_name) .none kV1 dc1 pm1 an1 cd1 ct1), sl1⟩) (c1 : PySem.W.codeIn K cd1 "is_name" = true) (k1 : PySem.W.keepIn K (.ref f1) = true)
    (a2 : PySem.W.nsIn K mainGlobals "is_rhythm" = some (some (.ref f2))) (l2 : K.lookup f2 = some ⟨oc2, od2, .func (PySem.W.fnOf "is_rhythm" "is_rhythm" (defArgs s_is_rhythm) (defBody s_is_rhythm) (defScope s_is_rhythm) .none kV2 dc2 pm2 an2 cd2 ct2), sl2⟩) (c2 : PySem.W.codeIn K cd2 "is_rhythm" = true) (k2 : PySem.W.keepIn K (.ref f2) = true)
    (a3 : PySem.W.nsIn K mainGlobals "takes" = some (some (.ref f3))) (l3 : K.lookup f3 = some ⟨oc3, od3, .func (PySem.W.fnOf "takes" "takes" (defArgs s_takes) (defBody s_takes) (defScope s_takes) .none kV3 dc3 pm3 an3 cd3 ct3), sl3⟩) (c3 : PySem.W.codeIn K cd3 "takes" = true) (k3 : PySem.W.keepIn K (.ref f3) = true)
    (a4 : PySem.W.nsIn K mainGlobals "times_of" = some (some (.ref f4))) (l4 : K.lookup f4 = some ⟨oc4, od4, .func (PySem.W.fnOf "times_of" "times_of" (defArgs s_times_of) (defBody s_times_of) (defScope s_times_of) .none kV4 dc4 pm4 an4 cd4 ct4), sl4⟩) (c4 : PySem.W.codeIn K cd4 "times_of" = true) (k4 : PySem.W.keepIn K (.ref f4) = true)
    (a5 : PySem.W.nsIn K mainGlobals "beat_of" = some (some (.ref f5))) (l5 : K.lookup f5 = some ⟨oc5, od5, .func (PySem.W.fnOf "beat_of" "beat_of" (defArgs s_beat_of) (defBody s_beat_of) (defScope s_beat_of) .none kV5 dc5 pm5 an5 cd5 ct5), sl5⟩) (c5 : PySem.W.codeIn K cd5 "beat_of" = true) (k5 : PySem.W.keepIn K (.ref f5) = true)
    (a6 : PySem.W.nsIn K mainGlobals "_law_pen" = some (some (.ref f6))) (l6 : K.lookup f6 = some ⟨oc6, od6, .func (PySem.W.fnOf "_law_pen" "_law_pen" (defArgs s__law_pen) (defBody s__law_pen) (defScope s__law_pen) .none kV6 dc6 pm6 an6 cd6 ct6), sl6⟩) (c6 : PySem.W.codeIn K cd6 "_law_pen" = true) (k6 : PySem.W.keepIn K (.ref f6) = true)
    (a7 : PySem.W.nsIn K mainGlobals "_law_draw" = some (some (.ref f7))) (l7 : K.lookup f7 = some ⟨oc7, od7, .func (PySem.W.fnOf "_law_draw" "_law_draw" (defArgs s__law_draw) (defBody s__law_draw) (defScope s__law_draw) .none kV7 dc7 pm7 an7 cd7 ct7), sl7⟩) (c7 : PySem.W.codeIn K cd7 "_law_draw" = true) (k7 : PySem.W.keepIn K (.ref f7) = true)
    (a8 : PySem.W.nsIn K mainGlobals "_law_pick" = some (some (.ref f8))) (l8 : K.lookup f8 = some ⟨oc8, od8, .func (PySem.W.fnOf "_law_pick" "_law_pick" (defArgs s__law_pick) (defBody s__law_pick) (defScope s__law_pick) .none kV8 dc8 pm8 an8 cd8 ct8), sl8⟩) (c8 : PySem.W.codeIn K cd8 "_law_pick" = true) (k8 : PySem.W.keepIn K (.ref f8) = true)
    (a9 : PySem.W.nsIn K mainGlobals "_law_names" = some (some (.ref f9))) (l9 : K.lookup f9 = some ⟨oc9, od9, .func (PySem.W.fnOf "_law_names" "_law_names" (defArgs s__law_names) (defBody s__law_names) (defScope s__law_names) .none kV9 dc9 pm9 an9 cd9 ct9), sl9⟩) (c9 : PySem.W.codeIn K cd9 "_law_names" = true) (k9 : PySem.W.keepIn K (.ref f9) = true)
    (a10 : PySem.W.nsIn K mainGlobals "_law_rhythm" = some (some (.ref f10))) (l10 : K.lookup f10 = some ⟨oc10, od10, .func (PySem.W.fnOf "_law_rhythm" "_law_rhythm" (defArgs s__law_rhythm) (defBody s__law_rhythm) (defScope s__law_rhythm) .none kV10 dc10 pm10 an10 cd10 ct10), sl10⟩) (c10 : PySem.W.codeIn K cd10 "_law_rhythm" = true) (k10 : PySem.W.keepIn K (.ref f10) = true)
    (a11 : PySem.W.nsIn K mainGlobals "_law_odd" = some (some (.ref f11))) (l11 : K.lookup f11 = some ⟨oc11, od11, .func (PySem.W.fnOf "_law_odd" "_law_odd" (defArgs s__law_odd) (defBody s__law_odd) (defScope s__law_odd) .none kV11 dc11 pm11 an11 cd11 ct11), sl11⟩) (c11 : PySem.W.codeIn K cd11 "_law_odd" = true) (k11 : PySem.W.keepIn K (.ref f11) = true)
    (a12 : PySem.W.nsIn K mainGlobals "_law_bent" = some (some (.ref f12))) (l12 : K.lookup f12 = some ⟨oc12, od12, .func (PySem.W.fnOf "_law_bent" "_law_bent" (defArgs s__law_bent) (defBody s__law_bent) (defScope s__law_bent) .none kV12 dc12 pm12 an12 cd12 ct12), sl12⟩) (c12 : PySem.W.codeIn K cd12 "_law_bent" = true) (k12 : PySem.W.keepIn K (.ref f12) = true)
    (a13 : PySem.W.nsIn K mainGlobals "_law_are_signs" = some (some (.ref f13))) (l13 : K.lookup f13 = some ⟨oc13, od13, .func (PySem.W.fnOf "_law_are_signs" "_law_are_signs" (defArgs s__law_are_signs) (defBody s__law_are_signs) (defScope s__law_are_signs) .none kV13 dc13 pm13 an13 cd13 ct13), sl13⟩) (c13 : PySem.W.codeIn K cd13 "_law_are_signs" = true) (k13 : PySem.W.keepIn K (.ref f13) = true)
    (a14 : PySem.W.nsIn K mainGlobals "_law_truths" = some (some (.ref f14))) (l14 : K.lookup f14 = some ⟨oc14, od14, .func (PySem.W.fnOf "_law_truths" "_law_truths" (defArgs s__law_truths) (defBody s__law_truths) (defScope s__law_truths) .none kV14 dc14 pm14 an14 cd14 ct14), sl14⟩) (c14 : PySem.W.codeIn K cd14 "_law_truths" = true) (k14 : PySem.W.keepIn K (.ref f14) = true)
    (a15 : PySem.W.nsIn K mainGlobals "_law_is_number" = some (some (.ref f15))) (l15 : K.lookup f15 = some ⟨oc15, od15, .func (PySem.W.fnOf "_law_is_number" "_law_is_number" (defArgs s__law_is_number) (defBody s__law_is_number) (defScope s__law_is_number) .none kV15 dc15 pm15 an15 cd15 ct15), sl15⟩) (c15 : PySem.W.codeIn K cd15 "_law_is_number" = true) (k15 : PySem.W.keepIn K (.ref f15) = true)
    (a16 : PySem.W.nsIn K mainGlobals "_law_counts" = some (some (.ref f16))) (l16 : K.lookup f16 = some ⟨oc16, od16, .func (PySem.W.fnOf "_law_counts" "_law_counts" (defArgs s__law_counts) (defBody s__law_counts) (defScope s__law_counts) .none kV16 dc16 pm16 an16 cd16 ct16), sl16⟩) (c16 : PySem.W.codeIn K cd16 "_law_counts" = true) (k16 : PySem.W.keepIn K (.ref f16) = true)
    (a17 : PySem.W.nsIn K mainGlobals "law" = some (some (.ref f17))) (l17 : K.lookup f17 = some ⟨oc17, od17, .func (PySem.W.fnOf "law" "law" (defArgs s_law) (defBody s_law) (defScope s_law) .none kV17 dc17 pm17 an17 cd17 ct17), sl17⟩) (c17 : PySem.W.codeIn K cd17 "law" = true) (k17 : PySem.W.keepIn K (.ref f17) = true)
    (z_abs : PySem.W.nsIn K mainGlobals "abs" = some none)
    (z_all : PySem.W.nsIn K mainGlobals "all" = some none)
    (z_bool : PySem.W.nsIn K mainGlobals "bool" = some none)
    (z_divmod : PySem.W.nsIn K mainGlobals "divmod" = some none)
    (z_enumerate : PySem.W.nsIn K mainGlobals "enumerate" = some none)
    (z_int : PySem.W.nsIn K mainGlobals "int" = some none)
    (z_isinstance : PySem.W.nsIn K mainGlobals "isinstance" = some none)
    (z_len : PySem.W.nsIn K mainGlobals "len" = some none)
    (z_list : PySem.W.nsIn K mainGlobals "list" = some none)
    (z_range : PySem.W.nsIn K mainGlobals "range" = some none)
    (z_repr : PySem.W.nsIn K mainGlobals "repr" = some none)
    (z_str : PySem.W.nsIn K mainGlobals "str" = some none)
    (g_LETTERS : PySem.W.nsIn K mainGlobals "LETTERS" = some (some (.str "abcdefghijklmnopqrstuvwxyz" t_LETTERS)))
    (g_LONGEST_NAME : PySem.W.nsIn K mainGlobals "LONGEST_NAME" = some (some (.int 8 t_LONGEST_NAME)))
    (g_LONGEST_RHYTHM : PySem.W.nsIn K mainGlobals "LONGEST_RHYTHM" = some (some (.int 6 t_LONGEST_RHYTHM))) :
    ∃ fd : FuncData, (∀ (s : Shared) (v : Value), BindsTo s fd ⟨[v], []⟩ [("_law_script", v)]) ∧ ∀ base : Heap, K.In base → base.Ns mainGlobals mg → FnG l.prog w K mg base CX0 5 fa fd ["_law_script"] (rSp K sp_law) := by
  have e := hfa.symm.trans (PySem.W.mg_of X G a17)
  cases e
  let T : Tx K mg := {
    f_is_made_of := f0, e_is_made_of := _, d_is_made_of := ⟨fun_mk (st := s_is_made_of) l0 c0 k0, PySem.W.mg_of X G a0, (fun_mk (st := s_is_made_of) l0 c0 k0).binds (ps := ["thing", "signs", "most"]) (fun _ _ _ _ _ _ us hl => (match us, hl with | [_, _, _], _ => rfl))⟩,
    f_is_name := f1, e_is_name := _, d_is_name := ⟨fun_mk (st := s_is_name) l1 c1 k1, PySem.W.mg_of X G a1, (fun_mk (st := s_is_name) l1 c1 k1).binds (ps := ["thing"]) (fun _ _ _ _ _ _ us hl => (match us, hl with | [_], _ => rfl))⟩,
    f_is_rhythm := f2, e_is_rhythm := _, d_is_rhythm := ⟨fun_mk (st := s_is_rhythm) l2 c2 k2, PySem.W.mg_of X G a2, (fun_mk (st := s_is_rhythm) l2 c2 k2).binds (ps := ["thing"]) (fun _ _ _ _ _ _ us hl => (match us, hl with | [_], _ => rfl))⟩,
    f_takes := f3, e_takes := _, d_takes := ⟨fun_mk (st := s_takes) l3 c3 k3, PySem.W.mg_of X G a3, (fun_mk (st := s_takes) l3 c3 k3).binds (ps := ["rhythm", "beat"]) (fun _ _ _ _ _ _ us hl => (match us, hl with | [_, _], _ => rfl))⟩,
    f_times_of := f4, e_times_of := _, d_times_of := ⟨fun_mk (st := s_times_of) l4 c4 k4, PySem.W.mg_of X G a4, (fun_mk (st := s_times_of) l4 c4 k4).binds (ps := ["rhythm", "beat"]) (fun _ _ _ _ _ _ us hl => (match us, hl with | [_, _], _ => rfl))⟩,
    f_beat_of := f5, e_beat_of := _, d_beat_of := ⟨fun_mk (st := s_beat_of) l5 c5 k5, PySem.W.mg_of X G a5, (fun_mk (st := s_beat_of) l5 c5 k5).binds (ps := ["rhythm", "number"]) (fun _ _ _ _ _ _ us hl => (match us, hl with | [_, _], _ => rfl))⟩,
    f__law_pen := f6, e__law_pen := _, d__law_pen := ⟨fun_mk (st := s__law_pen) l6 c6 k6, PySem.W.mg_of X G a6, (fun_mk (st := s__law_pen) l6 c6 k6).binds (ps := ["_law_script"]) (fun _ _ _ _ _ _ us hl => (match us, hl with | [_], _ => rfl))⟩,
    f__law_draw := f7, e__law_draw := _, d__law_draw := ⟨fun_mk (st := s__law_draw) l7 c7 k7, PySem.W.mg_of X G a7, (fun_mk (st := s__law_draw) l7 c7 k7).binds (ps := ["_law_pen_here", "_law_many"]) (fun _ _ _ _ _ _ us hl => (match us, hl with | [_, _], _ => rfl))⟩,
    f__law_pick := f8, e__law_pick := _, d__law_pick := ⟨fun_mk (st := s__law_pick) l8 c8 k8, PySem.W.mg_of X G a8, (fun_mk (st := s__law_pick) l8 c8 k8).binds (ps := ["_law_pen_here", "_law_some"]) (fun _ _ _ _ _ _ us hl => (match us, hl with | [_, _], _ => rfl))⟩,
    f__law_names := f9, e__law_names := _, d__law_names := ⟨fun_mk (st := s__law_names) l9 c9 k9, PySem.W.mg_of X G a9, (fun_mk (st := s__law_names) l9 c9 k9).binds (ps := ["_law_pen_here", "_law_many"]) (fun _ _ _ _ _ _ us hl => (match us, hl with | [_, _], _ => rfl))⟩,
    f__law_rhythm := f10, e__law_rhythm := _, d__law_rhythm := ⟨fun_mk (st := s__law_rhythm) l10 c10 k10, PySem.W.mg_of X G a10, (fun_mk (st := s__law_rhythm) l10 c10 k10).binds (ps := ["_law_pen_here"]) (fun _ _ _ _ _ _ us hl => (match us, hl with | [_], _ => rfl))⟩,
    f__law_odd := f11, e__law_odd := _, d__law_odd := ⟨fun_mk (st := s__law_odd) l11 c11 k11, PySem.W.mg_of X G a11, (fun_mk (st := s__law_odd) l11 c11 k11).binds (ps := ["_law_pen_here"]) (fun _ _ _ _ _ _ us hl => (match us, hl with | [_], _ => rfl))⟩,
    f__law_bent := f12, e__law_bent := _, d__law_bent := ⟨fun_mk (st := s__law_bent) l12 c12 k12, PySem.W.mg_of X G a12, (fun_mk (st := s__law_bent) l12 c12 k12).binds (ps := ["_law_pen_here", "_law_thing"]) (fun _ _ _ _ _ _ us hl => (match us, hl with | [_, _], _ => rfl))⟩,
    f__law_are_signs := f13, e__law_are_signs := _, d__law_are_signs := ⟨fun_mk (st := s__law_are_signs) l13 c13 k13, PySem.W.mg_of X G a13, (fun_mk (st := s__law_are_signs) l13 c13 k13).binds (ps := ["_law_thing", "_law_signs", "_law_most"]) (fun _ _ _ _ _ _ us hl => (match us, hl with | [_, _, _], _ => rfl))⟩,
    f__law_truths := f14, e__law_truths := _, d__law_truths := ⟨fun_mk (st := s__law_truths) l14 c14 k14, PySem.W.mg_of X G a14, (fun_mk (st := s__law_truths) l14 c14 k14).binds (ps := ["_law_thing"]) (fun _ _ _ _ _ _ us hl => (match us, hl with | [_], _ => rfl))⟩,
    f__law_is_number := f15, e__law_is_number := _, d__law_is_number := ⟨fun_mk (st := s__law_is_number) l15 c15 k15, PySem.W.mg_of X G a15, (fun_mk (st := s__law_is_number) l15 c15 k15).binds (ps := ["_law_told", "_law_due"]) (fun _ _ _ _ _ _ us hl => (match us, hl with | [_, _], _ => rfl))⟩,
    f__law_counts := f16, e__law_counts := _, d__law_counts := ⟨fun_mk (st := s__law_counts) l16 c16 k16, PySem.W.mg_of X G a16, (fun_mk (st := s__law_counts) l16 c16 k16).binds (ps := ["_law_rhythm_here", "_law_far"]) (fun _ _ _ _ _ _ us hl => (match us, hl with | [_, _], _ => rfl))⟩,
    f_law := fa, e_law := _, d_law := ⟨fun_mk (st := s_law) l17 c17 k17, PySem.W.mg_of X G a17, (fun_mk (st := s_law) l17 c17 k17).binds (ps := ["_law_script"]) (fun _ _ _ _ _ _ us hl => (match us, hl with | [_], _ => rfl))⟩,
    m_abs := PySem.W.mg_none_of X G z_abs,
    m_all := PySem.W.mg_none_of X G z_all,
    m_bool := PySem.W.mg_none_of X G z_bool,
    m_divmod := PySem.W.mg_none_of X G z_divmod,
    m_enumerate := PySem.W.mg_none_of X G z_enumerate,
    m_int := PySem.W.mg_none_of X G z_int,
    m_isinstance := PySem.W.mg_none_of X G z_isinstance,
    m_len := PySem.W.mg_none_of X G z_len,
    m_list := PySem.W.mg_none_of X G z_list,
    m_range := PySem.W.mg_none_of X G z_range,
    m_repr := PySem.W.mg_none_of X G z_repr,
    m_str := PySem.W.mg_none_of X G z_str,
    t_LETTERS := t_LETTERS, c_LETTERS := PySem.W.mg_of X G g_LETTERS,
    t_LONGEST_NAME := t_LONGEST_NAME, c_LONGEST_NAME := PySem.W.mg_of X G g_LONGEST_NAME,
    t_LONGEST_RHYTHM := t_LONGEST_RHYTHM, c_LONGEST_RHYTHM := PySem.W.mg_of X G g_LONGEST_RHYTHM }
  exact ⟨_, fun s v => .of_eq rfl, fun base _ _ => ok_law T⟩
theorem law_sp (w : World) (ns : List Int) (h : ns.length ≤ 63) : sp_law [.fro (ns.map D.int)] (fun _ => none) (fun _ _ _ => False) (fun d _ => d = .bl true) := ⟨rfl, ns, rfl, fun _ => rfl⟩
end K01

set_option maxRecDepth 100000
open PySem PySem.W PyProof.Rows
set_option maxHeartbeats 0 in
theorem PySem.Challenge.cw_holdgates_k01_names_and_rhythms_holds : PySem.Challenge.rw_holdgates_k01_names_and_rhythms.Holds := by
  w_on; o_law; k_head; (case hw => w_witness2)
  k_fill
  refine TV.walk_ofH (l := PySem.Challenge.rw_holdgates_k01_names_and_rhythms) (n := 63) (k := 5) (x := "_law_script") (sp := fun _ => K01.sp_law) rfl (by decide) rfl (TV.Rm.call.mono (by decide)) ?imp ?ks ?F K01.law_sp
  case imp => decide +kernel
  case ks => decide +kernel
  case F =>
    intro w mg fa h KX G hmg
    refine' K01.all_mk KX G hmg ?a0 ?l0 ?c0 ?k0 ?a1 ?l1 ?c1 ?k1 ?a2 ?l2 ?c2 ?k2 ?a3 ?l3 ?c3 ?k3 ?a4 ?l4 ?c4 ?k4 ?a5 ?l5 ?c5 ?k5 ?a6 ?l6 ?c6 ?k6 ?a7 ?l7 ?c7 ?k7 ?a8 ?l8 ?c8 ?k8 ?a9 ?l9 ?c9 ?k9 ?a10 ?l10 ?c10 ?k10 ?a11 ?l11 ?c11 ?k11 ?a12 ?l12 ?c12 ?k12 ?a13 ?l13 ?c13 ?k13 ?a14 ?l14 ?c14 ?k14 ?a15 ?l15 ?c15 ?k15 ?a16 ?l16 ?c16 ?k16 ?a17 ?l17 ?c17 ?k17 ?z_abs ?z_all ?z_bool ?z_divmod ?z_enumerate ?z_int ?z_isinstance ?z_len ?z_list ?z_range ?z_repr ?z_str ?g_LETTERS ?g_LONGEST_NAME ?g_LONGEST_RHYTHM
    (case a0 => k_is); (case l0 => k_is); (case c0 => k_is); (case k0 => k_is); (case a1 => k_is); (case l1 => k_is); (case c1 => k_is); (case k1 => k_is); (case a2 => k_is); (case l2 => k_is); (case c2 => k_is); (case k2 => k_is); (case a3 => k_is); (case l3 => k_is); (case c3 => k_is); (case k3 => k_is); (case a4 => k_is); (case l4 => k_is); (case c4 => k_is); (case k4 => k_is); (case a5 => k_is); (case l5 => k_is); (case c5 => k_is); (case k5 => k_is); (case a6 => k_is); (case l6 => k_is); (case c6 => k_is); (case k6 => k_is); (case a7 => k_is); (case l7 => k_is); (case c7 => k_is); (case k7 => k_is); (case a8 => k_is); (case l8 => k_is); (case c8 => k_is); (case k8 => k_is); (case a9 => k_is); (case l9 => k_is); (case c9 => k_is); (case k9 => k_is); (case a10 => k_is); (case l10 => k_is); (case c10 => k_is); (case k10 => k_is); (case a11 => k_is); (case l11 => k_is); (case c11 => k_is); (case k11 => k_is); (case a12 => k_is); (case l12 => k_is); (case c12 => k_is); (case k12 => k_is); (case a13 => k_is); (case l13 => k_is); (case c13 => k_is); (case k13 => k_is); (case a14 => k_is); (case l14 => k_is); (case c14 => k_is); (case k14 => k_is); (case a15 => k_is); (case l15 => k_is); (case c15 => k_is); (case k15 => k_is); (case a16 => k_is); (case l16 => k_is); (case c16 => k_is); (case k16 => k_is); (case a17 => k_is); (case l17 => k_is); (case c17 => k_is); (case k17 => k_is); (case z_abs => k_is); (case z_all => k_is); (case z_bool => k_is); (case z_divmod => k_is); (case z_enumerate => k_is); (case z_int => k_is); (case z_isinstance => k_is); (case z_len => k_is); (case z_list => k_is); (case z_range => k_is); (case z_repr => k_is); (case z_str => k_is); (case g_LETTERS => k_is); (case g_LONGEST_NAME => k_is); (case g_LONGEST_RHYTHM => k_is)

