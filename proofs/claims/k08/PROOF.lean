import PyProof.Rows.All
import HandS.ForMost
import HandS.ForExc
import HandS.IsInst
import HandS.Wide
import HandS.TupAny
import HandS.WideBits
import HandS.RaiseMore
import HandS.Style
import HandS.Ends
import HandS.ExcInit
import HandS.Gcd
import KE.KMathGC
import HandS.Defaults
import HandS.More
import HandS.ExcValue
import PyProof.SumWalkG
import HandS.Strs
import KE.GoesMore
import HandS.Dict
import KE.KDictZip
import HandS.Zip
import HandS.CallLocal
import HandS.TupMul
import PySem.Challenge.RW_holdgates_k08_inputs_and_cuts
set_option Elab.async false
set_option linter.all false
set_option maxRecDepth 100000
set_option maxHeartbeats 1000000
/-! TV: readings over trees. What an expression gives is a tree of data; what is changed stands in a small store. -/
namespace TV
open PySem PySem.Spec PyProof.Rows L2

/-- a tree of data; obj: a thing in the store (or a class, a def) by its address -/
inductive D where
  | non | bl (b : Bool) | int (i : Int) | str (x : Str)
  | tup (ds : List D) | lst (ds : List D) | fro (ds : List D) | dct (kvs : List (Key × D))
  | ins (C : Addr) (fs : List (Str × D))
  | obj (a : Addr) | ty (n : String)
deriving Inhabited

section
variable (K : PySem.W.Frag) (F : Hp)
mutual
inductive IsD : V → D → Prop where
  | non : IsD .non .non
  | bl {b} : IsD (.bl b) (.bl b)
  | int {i} : IsD (.int i) (.int i)
  | str {x} : IsD (.str x) (.str x)
  | tup {a xs ds} : SqT K F a xs → IsDs xs ds → IsD (.ref a) (.tup ds)
  | lst {a xs ds} : F a = some (.lst xs) → IsDs xs ds → IsD (.ref a) (.lst ds)
  | fro {a xs ds} : SqL K F a xs → IsDs xs ds → IsD (.ref a) (.fro ds)
  | dct {a kvs es} : F a = some (.dK kvs) → IsEs kvs es → IsD (.ref a) (.dct es)
  | ins {a C dx fs es} : F a = some (.ins C dx fs) → IsFs fs es → IsD (.ref a) (.ins C es)
  | obj {a} : IsD (.ref a) (.obj a)
  | ty {n} : IsD (.ty n) (.ty n)
inductive IsDs : List V → List D → Prop where
  | nil : IsDs [] []
  | cons {x xs d ds} : IsD x d → IsDs xs ds → IsDs (x :: xs) (d :: ds)
inductive IsEs : List (Key × V) → List (Key × D) → Prop where
  | nil : IsEs [] []
  | cons {k x xs d ds} : IsD x d → IsEs xs ds → IsEs ((k, x) :: xs) ((k, d) :: ds)
inductive IsFs : List (Str × V) → List (Str × D) → Prop where
  | nil : IsFs [] []
  | cons {k x xs d ds} : IsD x d → IsFs xs ds → IsFs ((k, x) :: xs) ((k, d) :: ds)
end
end

section
variable {K : PySem.W.Frag} {F F' : Hp}
theorem rd_mono (e : Same F F') {a : Addr} {u : HO} (h : Rd F a u) : Rd F' a u := by
  rcases h with h | ⟨o, h⟩
  · exact .inl (e a _ h)
  · exact .inr ⟨o, e a _ h⟩
theorem sql_mono (e : Same F F') {a : Addr} {xs : List V} (h : SqL K F a xs) : SqL K F' a xs := by
  rcases h with h | h
  · exact .inl (rd_mono e h)
  · exact .inr h
theorem sqt_mono (e : Same F F') {a : Addr} {xs : List V} (h : SqT K F a xs) : SqT K F' a xs := by
  rcases h with h | h
  · exact .inl (rd_mono e h)
  · exact .inr h
mutual
theorem IsD.mono (e : Same F F') : ∀ {v d}, IsD K F v d → IsD K F' v d
  | _, _, .non => .non
  | _, _, .bl => .bl
  | _, _, .int => .int
  | _, _, .str => .str
  | _, _, .tup h r => .tup (sqt_mono e h) (r.mono e)
  | _, _, .lst h r => .lst (e _ _ h) (r.mono e)
  | _, _, .fro h r => .fro (sql_mono e h) (r.mono e)
  | _, _, .dct h r => .dct (e _ _ h) (r.mono e)
  | _, _, .ins h r => .ins (e _ _ h) (r.mono e)
  | _, _, .obj => .obj
  | _, _, .ty => .ty
theorem IsDs.mono (e : Same F F') : ∀ {v d}, IsDs K F v d → IsDs K F' v d
  | _, _, .nil => .nil
  | _, _, .cons h r => .cons (h.mono e) (r.mono e)
theorem IsEs.mono (e : Same F F') : ∀ {v d}, IsEs K F v d → IsEs K F' v d
  | _, _, .nil => .nil
  | _, _, .cons h r => .cons (h.mono e) (r.mono e)
theorem IsFs.mono (e : Same F F') : ∀ {v d}, IsFs K F v d → IsFs K F' v d
  | _, _, .nil => .nil
  | _, _, .cons h r => .cons (h.mono e) (r.mono e)
end
theorem IsDs.len : ∀ {xs ds}, IsDs K F xs ds → xs.length = ds.length
  | _, _, .nil => rfl
  | _, _, .cons _ r => congrArg (· + 1) r.len
theorem IsDs.get : ∀ {xs ds} (i : Nat) {d : D}, IsDs K F xs ds → ds[i]? = some d → ∃ x, xs[i]? = some x ∧ IsD K F x d
  | _, _, _, _, .nil, e => by simp at e
  | _, _, 0, _, .cons h _, e => by
    simp at e; subst e; exact ⟨_, rfl, h⟩
  | _, _, i + 1, _, .cons _ r, e => by
    obtain ⟨x, e1, h1⟩ := IsDs.get i r (by simpa using e)
    exact ⟨x, by simpa using e1, h1⟩
theorem IsDs.getV : ∀ {xs ds} (i : Nat) {x : V}, IsDs K F xs ds → xs[i]? = some x → ∃ d, ds[i]? = some d ∧ IsD K F x d
  | _, _, _, _, .nil, e => by simp at e
  | _, _, 0, _, .cons h _, e => by
    simp at e; subst e; exact ⟨_, rfl, h⟩
  | _, _, i + 1, _, .cons _ r, e => by
    obtain ⟨x, e1, h1⟩ := IsDs.getV i r (by simpa using e)
    exact ⟨x, by simpa using e1, h1⟩
theorem IsDs.app : ∀ {xs ds ys es}, IsDs K F xs ds → IsDs K F ys es → IsDs K F (xs ++ ys) (ds ++ es)
  | _, _, _, _, .nil, q => q
  | _, _, _, _, .cons h r, q => .cons h (r.app q)
theorem IsDs.take : ∀ {xs ds} (n : Nat), IsDs K F xs ds → IsDs K F (xs.take n) (ds.take n)
  | _, _, 0, _ => .nil
  | _, _, _ + 1, .nil => .nil
  | _, _, n + 1, .cons h r => .cons h (r.take n)
theorem IsDs.drop : ∀ {xs ds} (n : Nat), IsDs K F xs ds → IsDs K F (xs.drop n) (ds.drop n)
  | _, _, 0, r => r
  | _, _, _ + 1, .nil => .nil
  | _, _, n + 1, .cons _ r => r.drop n
theorem IsDs.rev {xs ds} (h : IsDs K F xs ds) : IsDs K F xs.reverse ds.reverse := by
  induction xs generalizing ds with
  | nil => cases h; exact .nil
  | cons x xs ih =>
    cases h with
    | cons h r =>
      rw [List.reverse_cons, List.reverse_cons]
      exact (ih r).app (.cons h .nil)
theorem IsDs.set {x : V} {d : D} (q : IsD K F x d) : ∀ {xs ds} (i : Nat), IsDs K F xs ds → IsDs K F (xs.set i x) (ds.set i d)
  | _, _, _, .nil => .nil
  | _, _, 0, .cons _ r => .cons q r
  | _, _, i + 1, .cons h r => .cons h (r.set q i)
theorem IsDs.ints : ∀ ns : List Int, IsDs K F (ns.map V.int) (ns.map D.int)
  | [] => .nil
  | _ :: r => .cons .int (IsDs.ints r)
theorem IsDs.strs : ∀ ns : List Str, IsDs K F (ns.map V.str) (ns.map D.str)
  | [] => .nil
  | _ :: r => .cons .str (IsDs.strs r)
end

/-- a thing in the store -/
inductive MO where
  | lst (ds : List D) | dct (kvs : List (Key × D)) | ins (C : Addr) (fs : List (Str × D))
abbrev MS := Addr → Option MO
def updM (M : MS) (a : Addr) (m : MO) : MS := fun b => if b = a then some m else M b
def delM (M : MS) (a : Addr) : MS := fun b => if b = a then none else M b
theorem updM_same {M : MS} {a : Addr} {m : MO} : updM M a m a = some m := by unfold updM; rw [if_pos rfl]
theorem updM_ne {M : MS} {a b : Addr} {m : MO} (h : b ≠ a) : updM M a m b = M b := by unfold updM; rw [if_neg h]
theorem updM_updM {M : MS} {a : Addr} {m n : MO} : updM (updM M a m) a n = updM M a n := by
  funext b; unfold updM; split <;> rfl
theorem delM_same {M : MS} {a : Addr} : delM M a a = none := by unfold delM; rw [if_pos rfl]
theorem delM_ne {M : MS} {a b : Addr} (h : b ≠ a) : delM M a b = M b := by unfold delM; rw [if_neg h]
theorem delM_updM {M : MS} {a : Addr} {m : MO} (h : M a = none) : delM (updM M a m) a = M := by
  funext b; unfold delM updM
  by_cases e : b = a
  · subst e; rw [if_pos rfl, h]
  · rw [if_neg e, if_neg e]

inductive MOk (K : PySem.W.Frag) (F : Hp) : HO → MO → Prop where
  | lst {xs ds} : IsDs K F xs ds → MOk K F (.lst xs) (.lst ds)
  | dct {kvs es} : IsEs K F kvs es → MOk K F (.dK kvs) (.dct es)
  | ins {C dx fs es} : IsFs K F fs es → MOk K F (.ins C dx fs) (.ins C es)
theorem MOk.mono {K : PySem.W.Frag} {F F' : Hp} (e : Same F F') {o m} (h : MOk K F o m) : MOk K F' o m := by
  cases h with
  | lst h => exact .lst (h.mono e)
  | dct h => exact .dct (h.mono e)
  | ins h => exact .ins (h.mono e)

structure HeapOk (K : PySem.W.Frag) (F : Hp) (M : MS) (H : Hp) : Prop where
  sub : Same F H
  mu : ∀ a m, M a = some m → F a = none ∧ ∃ o, H a = some o ∧ MOk K F o m
  sm : ∃ φ, H sysModules = some (.ext φ) ∧ F sysModules = none ∧ M sysModules = none

/-- what may change: the rest stands -/
structure Gr (F : Hp) (M : MS) (H : Hp) (F' : Hp) (M' : MS) (H' : Hp) : Prop where
  ex : Same F F'
  fz : ∀ a, F' a ≠ none → F a ≠ none ∨ M a ≠ none ∨ H a = none
  mu : ∀ a, M' a ≠ none → M a ≠ none ∨ H a = none
  fr : ∀ a o, H a = some o → F a = none → M a = none → H' a = some o
  dom : ∀ a, H a ≠ none → H' a ≠ none

section
variable {K : PySem.W.Frag} {F F1 F2 : Hp} {M M1 M2 : MS} {H H1 H2 : Hp}
theorem Gr.refl : Gr F M H F M H := ⟨fun _ _ h => h, fun _ h => .inl h, fun _ h => .inl h, fun _ _ h _ _ => h, fun _ h => h⟩
theorem Gr.trans (a : Gr F M H F1 M1 H1) (b : Gr F1 M1 H1 F2 M2 H2) : Gr F M H F2 M2 H2 where
  ex := a.ex.trans b.ex
  fz := fun x h => by
    rcases b.fz x h with h | h | h
    · exact a.fz x h
    · rcases a.mu x h with h | h
      · exact .inr (.inl h)
      · exact .inr (.inr h)
    · by_cases e : H x = none
      · exact .inr (.inr e)
      · exact absurd h (a.dom x e)
  mu := fun x h => by
    rcases b.mu x h with h | h
    · exact a.mu x h
    · by_cases e : H x = none
      · exact .inr e
      · exact absurd h (a.dom x e)
  fr := fun x o h hf hm => by
    have h1 := a.fr x o h hf hm
    refine b.fr x o h1 ?_ ?_
    · cases e : F1 x with
      | none => rfl
      | some u =>
        rcases a.fz x (by rw [e]; simp) with z | z | z
        · exact absurd hf z
        · exact absurd hm z
        · rw [h] at z; cases z
    · cases e : M1 x with
      | none => rfl
      | some u =>
        rcases a.mu x (by rw [e]; simp) with z | z
        · exact absurd hm z
        · rw [h] at z; cases z
  dom := fun x h => b.dom x (a.dom x h)
theorem Gr.keepF (a : Gr F M H F1 M1 H1) {x : Addr} {o : HO} (h : H x = some o) (hf : F x = none) (hm : M x = none) : F1 x = none := by
  cases e : F1 x with
  | none => rfl
  | some u =>
    rcases a.fz x (by rw [e]; simp) with z | z | z
    · exact absurd hf z
    · exact absurd hm z
    · rw [h] at z; cases z
theorem Gr.keepM (a : Gr F M H F1 M1 H1) {x : Addr} {o : HO} (h : H x = some o) (hm : M x = none) : M1 x = none := by
  cases e : M1 x with
  | none => rfl
  | some u =>
    rcases a.mu x (by rw [e]; simp) with z | z
    · exact absurd hm z
    · rw [h] at z; cases z
theorem HeapOk.noF (h : HeapOk K F M H) {x : Addr} (n : H x = none) : F x = none := by
  cases e : F x with
  | none => rfl
  | some u => rw [h.sub x u e] at n; cases n
theorem HeapOk.noM (h : HeapOk K F M H) {x : Addr} (n : H x = none) : M x = none := by
  cases e : M x with
  | none => rfl
  | some u =>
    obtain ⟨_, o, z, _⟩ := h.mu x u e
    rw [z] at n; cases n
/-- a new untracked thing -/
theorem Gr.newU {p : Addr} {o : HO} (n : H p = none) : Gr F M H F M (upd H p o) where
  ex := fun _ _ h => h
  fz := fun _ h => .inl h
  mu := fun _ h => .inl h
  fr := fun a o h _ _ => by rw [upd_ne (ne_of_none h n)]; exact h
  dom := fun a h => by
    by_cases e : a = p
    · subst e; exact absurd n h
    · rw [upd_ne e]; exact h
theorem HeapOk.newU (h : HeapOk K F M H) {p : Addr} {o : HO} (n : H p = none) : HeapOk K F M (upd H p o) :=
  ⟨fun a u e => by rw [upd_ne (ne_of_none (h.sub a u e) n)]; exact h.sub a u e,
    fun a m e => by
      obtain ⟨f, o', z, q⟩ := h.mu a m e
      exact ⟨f, o', by rw [upd_ne (ne_of_none z n)]; exact z, q⟩,
    let ⟨φ, a, b, c⟩ := h.sm; ⟨φ, by rw [upd_ne (ne_of_none a n)]; exact a, b, c⟩⟩
/-- an untracked thing changes -/
theorem HeapOk.setU (h : HeapOk K F M H) {p : Addr} {o : HO} (nf : F p = none) (nm : M p = none) (ns : p ≠ sysModules) : HeapOk K F M (upd H p o) :=
  ⟨fun a u e => by rw [upd_ne (fun z => by subst z; rw [nf] at e; cases e)]; exact h.sub a u e,
    fun a m e => by
      obtain ⟨f, o', z, q⟩ := h.mu a m e
      exact ⟨f, o', by rw [upd_ne (fun z => by subst z; rw [nm] at e; cases e)]; exact z, q⟩,
    let ⟨φ, a, b, c⟩ := h.sm; ⟨φ, by rw [upd_ne (Ne.symm ns)]; exact a, b, c⟩⟩
/-- a thing that stands in the heap alone is frozen -/
theorem Gr.frz {p : Addr} {o : HO} (nf : F p = none) (n : H p = none) : Gr F M H (upd F p o) M (upd H p o) where
  ex := fun a u h => by rw [upd_ne (ne_of_none h nf)]; exact h
  fz := fun a h => by
    by_cases e : a = p
    · subst e; exact .inr (.inr n)
    · rw [upd_ne e] at h; exact .inl h
  mu := fun _ h => .inl h
  fr := fun a o h _ _ => by rw [upd_ne (ne_of_none h n)]; exact h
  dom := fun a h => by
    by_cases e : a = p
    · subst e; exact absurd n h
    · rw [upd_ne e]; exact h
theorem Same.upd {F : Hp} {p : Addr} {o : HO} (nf : F p = none) : Same F (upd F p o) := fun a u h => by rw [upd_ne (ne_of_none h nf)]; exact h
theorem HeapOk.frz (h : HeapOk K F M H) {p : Addr} {o : HO} (n : H p = none) : HeapOk K (upd F p o) M (upd H p o) :=
  ⟨fun a u e => by
    by_cases z : a = p
    · subst z; rw [upd_same] at e ⊢; exact e
    · rw [upd_ne z] at e ⊢; exact h.sub a u e,
    fun a m e => by
      obtain ⟨f, o', z, q⟩ := h.mu a m e
      have ne : a ≠ p := ne_of_none z n
      exact ⟨by rw [upd_ne ne]; exact f, o', by rw [upd_ne ne]; exact z, q.mono (Same.upd (h.noF n))⟩,
    let ⟨φ, a, b, c⟩ := h.sm; have ne : sysModules ≠ p := ne_of_none a n; ⟨φ, by rw [upd_ne ne]; exact a, by rw [upd_ne ne]; exact b, c⟩⟩
theorem HeapOk.noS (h : HeapOk K F M H) {p : Addr} (n : H p = none) : p ≠ sysModules := fun e => by
  obtain ⟨φ, a, _⟩ := h.sm
  rw [e, a] at n; cases n
/-- what stands in H untracked is taken into F -/
theorem HeapOk.take (h : HeapOk K F M H) {p : Addr} {o : HO} (e : H p = some o) (nf : F p = none) (nm : M p = none) (ns : p ≠ sysModules) : HeapOk K (upd F p o) M H :=
  ⟨fun a u q => by
    by_cases z : a = p
    · subst z; rw [upd_same] at q; rw [← q]; exact e
    · rw [upd_ne z] at q; exact h.sub a u q,
    fun a m q => by
      obtain ⟨f, o', z, r⟩ := h.mu a m q
      have ne : a ≠ p := fun z => by subst z; rw [nm] at q; cases q
      exact ⟨by rw [upd_ne ne]; exact f, o', z, r.mono (Same.upd nf)⟩,
    let ⟨φ, a, b, c⟩ := h.sm; ⟨φ, a, by rw [upd_ne (Ne.symm ns)]; exact b, c⟩⟩
/-- .. into the store -/
theorem HeapOk.takeM (h : HeapOk K F M H) {p : Addr} {o : HO} {m : MO} (e : H p = some o) (nf : F p = none) (q : MOk K F o m) (ns : p ≠ sysModules) : HeapOk K F (updM M p m) H :=
  ⟨h.sub, fun a m' e' => by
    by_cases z : a = p
    · subst z; rw [updM_same] at e'; cases e'; exact ⟨nf, o, e, q⟩
    · rw [updM_ne z] at e'; exact h.mu a m' e',
    let ⟨φ, a, b, c⟩ := h.sm; ⟨φ, a, b, by rw [updM_ne (Ne.symm ns)]; exact c⟩⟩
/-- a thing of the store is written -/
theorem HeapOk.put (h : HeapOk K F M H) {p : Addr} {o : HO} {m : MO} (nf : F p = none) (q : MOk K F o m) (ns : p ≠ sysModules) : HeapOk K F (updM M p m) (upd H p o) :=
  ⟨fun a u e => by rw [upd_ne (ne_of_none e nf)]; exact h.sub a u e,
    fun a m' e => by
      by_cases z : a = p
      · subst z; rw [updM_same] at e; cases e; exact ⟨nf, o, upd_same, q⟩
      · rw [updM_ne z] at e
        obtain ⟨f, o', y, r⟩ := h.mu a m' e
        exact ⟨f, o', by rw [upd_ne z]; exact y, r⟩,
    let ⟨φ, a, b, c⟩ := h.sm; ⟨φ, by rw [upd_ne (Ne.symm ns)]; exact a, b, by rw [updM_ne (Ne.symm ns)]; exact c⟩⟩
theorem HeapOk.mS (h : HeapOk K F M H) {p : Addr} {m : MO} (e : M p = some m) : p ≠ sysModules := fun z => by
  obtain ⟨φ, _, _, c⟩ := h.sm
  rw [z, c] at e; cases e
theorem Gr.put {p : Addr} {o : HO} {m m' : MO} (e : M p = some m') : Gr F M H F (updM M p m) (upd H p o) where
  ex := fun _ _ h => h
  fz := fun _ h => .inl h
  mu := fun a h => by
    by_cases z : a = p
    · subst z; exact .inl (by rw [e]; simp)
    · rw [updM_ne z] at h; exact .inl h
  fr := fun a o h _ hm => by rw [upd_ne (fun z => by subst z; rw [e] at hm; cases hm)]; exact h
  dom := fun a h => by
    by_cases z : a = p
    · subst z; rw [upd_same]; simp
    · rw [upd_ne z]; exact h
/-- a new thing of the store -/
theorem Gr.newM {p : Addr} {o : HO} {m : MO} (n : H p = none) : Gr F M H F (updM M p m) (upd H p o) where
  ex := fun _ _ h => h
  fz := fun _ h => .inl h
  mu := fun a h => by
    by_cases z : a = p
    · subst z; exact .inr n
    · rw [updM_ne z] at h; exact .inl h
  fr := fun a o h _ hm => by rw [upd_ne (ne_of_none h n)]; exact h
  dom := fun a h => by
    by_cases z : a = p
    · subst z; exact absurd n h
    · rw [upd_ne z]; exact h
/-- a thing of the store is frozen -/
theorem HeapOk.melt (h : HeapOk K F M H) {p : Addr} {o : HO} {m : MO} (e : M p = some m) (eo : H p = some o) : HeapOk K (upd F p o) (delM M p) H :=
  ⟨fun a u q => by
    by_cases z : a = p
    · subst z; rw [upd_same] at q; rw [← q]; exact eo
    · rw [upd_ne z] at q; exact h.sub a u q,
    fun a m' q => by
      have ne : a ≠ p := fun z => by subst z; rw [delM_same] at q; cases q
      rw [delM_ne ne] at q
      obtain ⟨f, o', y, r⟩ := h.mu a m' q
      exact ⟨by rw [upd_ne ne]; exact f, o', y, r.mono (Same.upd (h.mu p m e).1)⟩,
    let ⟨φ, a, b, c⟩ := h.sm; have ns := Ne.symm (h.mS e); ⟨φ, a, by rw [upd_ne ns]; exact b, by rw [delM_ne ns]; exact c⟩⟩
theorem Gr.melt {p : Addr} {o : HO} {m : MO} (nf : F p = none) (e : M p = some m) : Gr F M H (upd F p o) (delM M p) H where
  ex := Same.upd nf
  fz := fun a h => by
    by_cases z : a = p
    · subst z; exact .inr (.inl (by rw [e]; simp))
    · rw [upd_ne z] at h; exact .inl h
  mu := fun a h => by
    by_cases z : a = p
    · subst z; rw [delM_same] at h; exact absurd rfl h
    · rw [delM_ne z] at h; exact .inl h
  fr := fun _ _ h _ _ => h
  dom := fun _ h => h
end
end TV

set_option Elab.async false
set_option linter.all false
set_option maxRecDepth 100000
set_option maxHeartbeats 1000000
namespace TV
open PySem PySem.Spec PyProof.Rows L2

abbrev DSt := List (Option D)
abbrev XD := Addr → List (Str × D) → MS → Prop
abbrev KD := D → MS → Prop
abbrev DE := DSt → MS → XD → KD → Prop
abbrev DT := DSt → MS → XD → (Bool → MS → Prop) → Prop
abbrev DA := DSt → MS → XD → (List D → MS → Prop) → Prop
structure DEnds where
  nx : DSt → MS → Prop
  rt : KD
  bk : DSt → MS → Prop := fun _ _ => False
  ct : DSt → MS → Prop := fun _ _ => False
abbrev DS := DEnds → DSt → MS → XD → Prop

structure EnvOk (K : PySem.W.Frag) (F : Hp) (σ : L2.St) (ρ : DSt) : Prop where
  len : ρ.length = σ.length
  at_ : ∀ (i : Nat) (d : D), ρ[i]? = some (some d) → ∃ v, σ[i]? = some (some v) ∧ IsD K F v d
theorem EnvOk.mono {K : PySem.W.Frag} {F F' : Hp} {σ : L2.St} {ρ : DSt} (h : EnvOk K F σ ρ) (e : Same F F') : EnvOk K F' σ ρ :=
  ⟨h.len, fun i d q => let ⟨v, a, b⟩ := h.at_ i d q; ⟨v, a, b.mono e⟩⟩
theorem EnvOk.set {K : PySem.W.Frag} {F : Hp} {σ : L2.St} {ρ : DSt} (h : EnvOk K F σ ρ) {v : V} {d : D} (i : Nat) (q : IsD K F v d) : EnvOk K F (σ.set i (some v)) (ρ.set i (some d)) :=
  ⟨by simp [h.len], fun j e z => by
    by_cases ij : i = j
    · subst ij
      have hl : i < ρ.length := by
        have := (List.getElem?_eq_some_iff.mp z).1
        simpa using this
      rw [List.getElem?_set_self hl] at z
      cases z
      exact ⟨v, by rw [List.getElem?_set_self (by rw [← h.len]; exact hl)], q⟩
    · rw [List.getElem?_set_ne ij] at z
      obtain ⟨w, a, b⟩ := h.at_ j e z
      exact ⟨w, by rw [List.getElem?_set_ne ij]; exact a, b⟩⟩
theorem EnvOk.wipe {K : PySem.W.Frag} {F : Hp} {σ : L2.St} {ρ : DSt} (h : EnvOk K F σ ρ) (i : Nat) : EnvOk K F (σ.set i none) (ρ.set i none) :=
  ⟨by simp [h.len], fun j e z => by
    by_cases ij : i = j
    · subst ij
      have hl : i < ρ.length := by
        have := (List.getElem?_eq_some_iff.mp z).1
        simpa using this
      rw [List.getElem?_set_self hl] at z
      cases z
    · rw [List.getElem?_set_ne ij] at z
      obtain ⟨w, a, b⟩ := h.at_ j e z
      exact ⟨w, by rw [List.getElem?_set_ne ij]; exact a, b⟩⟩

/-- an exception of one's own class that leaves meets what is wanted -/
def XOk (K : PySem.W.Frag) (G : XK) (F : Hp) (M : MS) (H : Hp) (x : XD) : Prop :=
  ∀ C fs F' M' H' dx fvs, Gr F M H F' M' H' → HeapOk K F' M' H' → H' dx = some (.xd fvs) → IsFs K F' fvs fs → x C fs M' → G (.ref C) (some dx) H'

structure At (K : PySem.W.Frag) (G : XK) (σ : L2.St) (ρ : DSt) (F : Hp) (M : MS) (H : Hp) (x : XD) : Prop where
  env : EnvOk K F σ ρ
  heap : HeapOk K F M H
  xok : XOk K G F M H x
section
variable {K : PySem.W.Frag} {G : XK} {σ : L2.St} {ρ : DSt} {F F' : Hp} {M M' : MS} {H H' : Hp} {x : XD}
theorem XOk.step (h : XOk K G F M H x) (g : Gr F M H F' M' H') : XOk K G F' M' H' x := fun C fs F2 M2 H2 dx fvs g2 => h C fs F2 M2 H2 dx fvs (g.trans g2)
theorem At.step (h : At K G σ ρ F M H x) (g : Gr F M H F' M' H') (o : HeapOk K F' M' H') : At K G σ ρ F' M' H' x := ⟨h.env.mono g.ex, o, h.xok.step g⟩
end

/-- the continuation over trees meets the one over values -/
def Kt (K : PySem.W.Frag) (F : Hp) (M : MS) (H : Hp) (k : KD) (Q : VK) : Prop :=
  ∀ v d F' M' H', Gr F M H F' M' H' → HeapOk K F' M' H' → IsD K F' v d → k d M' → Q v H'
def rE (K : PySem.W.Frag) (G : XK) (w : DE) : TE := fun σ H Q => ∃ ρ F M x k, At K G σ ρ F M H x ∧ w ρ M x k ∧ Kt K F M H k Q
def rT (K : PySem.W.Frag) (G : XK) (w : DT) : TT := fun σ H Q => ∃ ρ F M x k, At K G σ ρ F M H x ∧ w ρ M x k ∧ ∀ b F' M' H', Gr F M H F' M' H' → HeapOk K F' M' H' → k b M' → Q b H'
def rA (K : PySem.W.Frag) (G : XK) (w : DA) : TA := fun σ H Q => ∃ ρ F M x k, At K G σ ρ F M H x ∧ w ρ M x k ∧ ∀ vs ds F' M' H', Gr F M H F' M' H' → HeapOk K F' M' H' → IsDs K F' vs ds → k ds M' → Q vs H'
/-- a new list, in no one's hands yet -/
def rL (K : PySem.W.Frag) (G : XK) (w : DA) : TE := fun σ H Q => ∃ ρ F M x k, At K G σ ρ F M H x ∧ w ρ M x k ∧
  ∀ p vs ds F' M' H', Gr F M H F' M' H' → HeapOk K F' M' H' → H p = none → H' p = some (.lst vs) → F' p = none → M' p = none → IsDs K F' vs ds → k ds M' → Q (.ref p) H'
abbrev XE (X : Cx) (G : XK) (e : Expr) (w : DE) : Prop := PE X e (rE X.K G w)
abbrev XT (X : Cx) (G : XK) (e : Expr) (w : DT) : Prop := PT X e (rT X.K G w)
abbrev XW (X : Cx) (G : XK) (e : Expr) (w : DT) : Prop := PW X e (rT X.K G w)
abbrev XA (X : Cx) (G : XK) (es : List Expr) (w : DA) : Prop := PA X es (rA X.K G w)
abbrev XL (X : Cx) (G : XK) (e : Expr) (w : DA) : Prop := PE X e (rL X.K G w)

theorem PE.imp {X : Cx} {e : Expr} {t t' : TE} (h : PE X e t) (f : ∀ σ H Q, t' σ H Q → t σ H Q) : PE X e t' := ⟨fun pins s σ H Q I q => h.run pins s σ H Q I (f σ H Q q)⟩
theorem PT.imp {X : Cx} {e : Expr} {t t' : TT} (h : PT X e t) (f : ∀ σ H Q, t' σ H Q → t σ H Q) : PT X e t' := ⟨fun pins s σ H Q I q => h.run pins s σ H Q I (f σ H Q q)⟩
theorem PW.imp {X : Cx} {e : Expr} {t t' : TT} (h : PW X e t) (f : ∀ σ H Q, t' σ H Q → t σ H Q) : PW X e t' := ⟨fun wh pins s σ H Q I q => h.run wh pins s σ H Q I (f σ H Q q)⟩
theorem PA.imp {X : Cx} {e : List Expr} {t t' : TA} (h : PA X e t) (f : ∀ σ H Q, t' σ H Q → t σ H Q) : PA X e t' := ⟨fun pos pins s σ H Q I q => h.run pos pins s σ H Q I (f σ H Q q)⟩
theorem PS.imp {X : Cx} {e : Stmt} {t t' : TS} (h : PS X e t) (f : ∀ D σ H, t' D σ H → t D σ H) : PS X e t' := ⟨fun pins s σ H D I q => h.run pins s σ H D I (f D σ H q)⟩
theorem PSs.imp {X : Cx} {e : List Stmt} {t t' : TS} (h : PSs X e t) (f : ∀ D σ H, t' D σ H → t D σ H) : PSs X e t' := ⟨fun pins s σ H D I q => h.run pins s σ H D I (f D σ H q)⟩

/-! ### the base -/
section
variable {X : Cx} {G : XK} {a b c e : Expr} {es : List Expr} {wa wb wc : DE} {pos : Pos}
/-- what is seen of a thing -/
def view (M : MS) : D → D
  | .obj p => match M p with
    | some (.lst ds) => .lst ds
    | some (.dct es) => .dct es
    | some (.ins C fs) => .ins C fs
    | none => .obj p
  | d => d
def wVar (i : Nat) : DE := fun ρ M _ k => ∃ d, ρ[i]? = some (some d) ∧ k d M
def wC (d : D) : DE := fun _ M _ k => k d M
theorem xv (i : Nat) {x : Str} {pos : Pos} (hN : X.N[i]? = some x := by rfl) (hv : Vis X.env.scope x := by first | exact Or.inl rfl | exact Or.inr (Or.inl rfl) | exact Or.inr (Or.inr rfl)) (hd : (x == ("__debug__" : Str)) = false := by decide)
    (hcd : (x == ("__classdict__" : Str)) = false := by decide) : XE X G (.Name x pos) (wVar i) :=
  PE.imp (pe_var hN hv hd hcd) fun σ H Q ⟨ρ, F, M, x, k, a, ⟨d, e, q⟩, kt⟩ => by
    obtain ⟨v, ev, hv⟩ := a.env.at_ i d e
    exact ⟨v, ev, kt v d F M H .refl a.heap hv q⟩
theorem xc_of {v : V} {d : D} (h : ∀ F, IsD X.K F v d) (p : PE X e (tC v)) : XE X G e (wC d) :=
  PE.imp p fun σ H Q ⟨ρ, F, M, x, k, a, q, kt⟩ => kt v d F M H .refl a.heap (h F) q
theorem xint {i j pos} : XE X G (.Constant (.int i) j pos) (wC (.int i)) := xc_of (fun _ => .int) pe_int
theorem xbl {b j pos} : XE X G (.Constant (.bool b) j pos) (wC (.bl b)) := xc_of (fun _ => .bl) pe_bl
theorem xnon {j pos} : XE X G (.Constant .none j pos) (wC .non) := xc_of (fun _ => .non) pe_non
theorem xstr {s j pos} : XE X G (.Constant (.str s) j pos) (wC (.str s)) := xc_of (fun _ => .str) pe_str
theorem xglob {x : Str} {v : V} {d : D} {u : Value} {pos : Pos} (h : ∀ F, IsD X.K F v d) (hg : Gl X x) (hm : X.mg x = some u) (r : RelV v u) (hd : (x == ("__debug__" : Str)) = false := by decide) : XE X G (.Name x pos) (wC d) := xc_of h (pe_glob hg hm r hd)
theorem xbltn {x : Str} {v : V} {d : D} {u : Value} {pos : Pos} (h : ∀ F, IsD X.K F v d) (hg : Gl X x) (hm : X.mg x = none) (hv : bootBuiltins x = some u) (r : RelV v u) (hn : x ≠ "__name__" := by decide) (hd : (x == ("__debug__" : Str)) = false := by decide) : XE X G (.Name x pos) (wC d) :=
  xc_of h (pe_bltn hg hm hv r hn hd)

def wNil : DA := fun _ M _ k => k [] M
def wCons (w : DE) (ws : DA) : DA := fun ρ M x k => w ρ M x fun d M1 => ws ρ M1 x fun ds M2 => k (d :: ds) M2
theorem xa_nil : XA X G [] wNil := PA.imp pa_nil fun σ H Q ⟨ρ, F, M, x, k, a, q, kt⟩ => kt [] [] F M H .refl a.heap .nil q
theorem xa_cons {ws : DA} (h : XE X G e wa) (hs : XA X G es ws) (ha : starEach (e :: es) X.env = (false, eval e X.env) :: starEach es X.env := by rfl) : XA X G (e :: es) (wCons wa ws) :=
  PA.imp (pa_cons h hs ha) fun σ H Q ⟨ρ, F, M, x, k, a, q, kt⟩ =>
    ⟨ρ, F, M, x, _, a, q, fun v d F1 M1 H1 g1 o1 i1 q1 =>
      ⟨ρ, F1, M1, x, _, a.step g1 o1, q1, fun vs ds F2 M2 H2 g2 o2 i2 q2 => kt _ _ F2 M2 H2 (g1.trans g2) o2 (.cons (i1.mono g2.ex) i2) q2⟩⟩

/-! ### operators -/
abbrev OD := MS → D → D → (D → Prop) → Prop
def Lifts (K : PySem.W.Frag) (od : OD) (r : R2) : Prop := ∀ F M H v u d e (q : D → Prop) (Q : VK), HeapOk K F M H → IsD K F v d → IsD K F u e → od M d e q →
  (∀ w c F' H', Gr F M H F' M H' → HeapOk K F' M H' → IsD K F' w c → q c → Q w H') → r v u H Q
def wOp (od : OD) (wa wb : DE) : DE := fun ρ M x k => wa ρ M x fun d M1 => wb ρ M1 x fun e M2 => od M2 d e fun c => k c M2
theorem tOp_of {r : R2} {od : OD} (l : Lifts X.K od r) {σ : L2.St} {H : Hp} {Q : VK} (h : rE X.K G (wOp od wa wb) σ H Q) : tOp r (rE X.K G wa) (rE X.K G wb) σ H Q := by
  obtain ⟨ρ, F, M, x, k, a, q, kt⟩ := h
  refine ⟨ρ, F, M, x, _, a, q, fun v d F1 M1 H1 g1 o1 i1 q1 => ?_⟩
  refine ⟨ρ, F1, M1, x, _, a.step g1 o1, q1, fun u e F2 M2 H2 g2 o2 i2 q2 => ?_⟩
  exact l F2 M2 H2 v u d e _ Q o2 (i1.mono g2.ex) i2 q2 fun w c F' H' g o i q' => kt w c F' M2 H' ((g1.trans g2).trans g) o i q'
theorem xe_op {op : Operator} {r : R2} {od : OD} (ho : OpR X (binaryOp op) r) (l : Lifts X.K od r) (ha : XE X G a wa) (hb : XE X G b wb) : XE X G (.BinOp a op b pos) (wOp od wa wb) :=
  PE.imp (pe_op ho ha hb) fun σ H Q h => tOp_of l h
theorem xe_cmp {op : CmpOp} {r : R2} {od : OD} (ho : OpR X (compareOp op) r) (l : Lifts X.K od r) (ha : XE X G a wa) (hb : XE X G b wb) (hm : behindInMarks op b = false) : XE X G (.Compare a [op] [b] pos) (wOp od wa wb) :=
  PE.imp (pe_cmpR ho ha hb hm) fun σ H Q h => tOp_of l h
def wTest (w : DE) : DT := fun ρ M x k => w ρ M x fun d M1 => ∃ b, d = .bl b ∧ k b M1
theorem isD_bl {K : PySem.W.Frag} {F : Hp} {v : V} {b : Bool} (h : IsD K F v (.bl b)) : v = .bl b := by cases h; rfl
theorem isD_int {K : PySem.W.Frag} {F : Hp} {v : V} {b : Int} (h : IsD K F v (.int b)) : v = .int b := by cases h; rfl
theorem isD_str {K : PySem.W.Frag} {F : Hp} {v : V} {b : Str} (h : IsD K F v (.str b)) : v = .str b := by cases h; rfl
theorem tTest_of {t : TE} {w : DE} (ht : ∀ σ H Q, rE X.K G w σ H Q → t σ H Q) {σ : L2.St} {H : Hp} {Q : Bool → Hp → Prop} (h : rT X.K G (wTest w) σ H Q) : tTest t σ H Q := by
  obtain ⟨ρ, F, M, x, k, a, q, kt⟩ := h
  refine ht _ _ _ ⟨ρ, F, M, x, _, a, q, fun v d F1 M1 H1 g1 o1 i1 ⟨b, eb, qb⟩ => ?_⟩
  subst eb
  exact ⟨b, isD_bl i1, kt b F1 M1 H1 g1 o1 qb⟩
theorem xt_cmp {op : CmpOp} {r : R2} {od : OD} (ho : OpR X (compareOp op) r) (l : Lifts X.K od r) (ha : XE X G a wa) (hb : XE X G b wb) (hm : behindInMarks op b = false) : XT X G (.Compare a [op] [b] pos) (wTest (wOp od wa wb)) :=
  PT.imp (pt_cmpR ho ha hb hm) fun σ H Q h => tTest_of (fun _ _ _ z => tOp_of l z) h
def wChain (od od' : OD) (wa wb wc : DE) : DE := fun ρ M x k => wa ρ M x fun d M1 => wb ρ M1 x fun e M2 => od M2 d e fun z => ∃ b, z = .bl b ∧
  (if b = true then wc ρ M2 x fun f M3 => od' M3 e f fun y => k y M3 else k (.bl false) M2)
theorem tChain_of {r r' : R2} {od od' : OD} (l : Lifts X.K od r) (l' : Lifts X.K od' r') {σ : L2.St} {H : Hp} {Q : VK} (h : rE X.K G (wChain od od' wa wb wc) σ H Q) : tChain r r' (rE X.K G wa) (rE X.K G wb) (rE X.K G wc) σ H Q := by
  obtain ⟨ρ, F, M, x, k, a, q, kt⟩ := h
  refine ⟨ρ, F, M, x, _, a, q, fun v d F1 M1 H1 g1 o1 i1 q1 => ?_⟩
  refine ⟨ρ, F1, M1, x, _, a.step g1 o1, q1, fun u e F2 M2 H2 g2 o2 i2 q2 => ?_⟩
  refine l F2 M2 H2 v u d e _ _ o2 (i1.mono g2.ex) i2 q2 fun w c F3 H3 g3 o3 i3 ⟨b, eb, qb⟩ => ?_
  subst eb
  refine ⟨b, isD_bl i3, ?_⟩
  cases b with
  | false =>
    rw [if_neg (by decide)] at qb ⊢
    exact kt _ _ F3 M2 H3 ((g1.trans g2).trans g3) o3 .bl qb
  | true =>
    rw [if_pos rfl] at qb ⊢
    refine ⟨ρ, F3, M2, x, _, a.step ((g1.trans g2).trans g3) o3, qb, fun y f F4 M4 H4 g4 o4 i4 q4 => ?_⟩
    exact l' F4 M4 H4 u y e f _ Q o4 (i2.mono (g3.trans g4).ex) i4 q4 fun w c F' H' g o i q' => kt w c F' M4 H' ((((g1.trans g2).trans g3).trans g4).trans g) o i q'
theorem xe_chain {op op' : CmpOp} {r r' : R2} {od od' : OD} (ho : OpR X (compareOp op) r) (ho' : OpR X (compareOp op') r') (l : Lifts X.K od r) (l' : Lifts X.K od' r') (ha : XE X G a wa) (hb : XE X G b wb) (hc : XE X G c wc)
    (hm : lastMarks [op, op'] [b, c] = false := by with_unfolding_all rfl) : XE X G (.Compare a [op, op'] [b, c] pos) (wChain od od' wa wb wc) :=
  PE.imp (pe_chain ho ho' ha hb hc hm) fun σ H Q h => tChain_of l l' h
theorem xt_chain {op op' : CmpOp} {r r' : R2} {od od' : OD} (ho : OpR X (compareOp op) r) (ho' : OpR X (compareOp op') r') (l : Lifts X.K od r) (l' : Lifts X.K od' r') (ha : XE X G a wa) (hb : XE X G b wb) (hc : XE X G c wc)
    (hm : lastMarks [op, op'] [b, c] = false := by with_unfolding_all rfl) : XT X G (.Compare a [op, op'] [b, c] pos) (wTest (wChain od od' wa wb wc)) :=
  PT.imp (pt_chain ho ho' ha hb hc hm) fun σ H Q h => tTest_of (fun _ _ _ z => tChain_of l l' z) h
def wUn (od : MS → D → (D → Prop) → Prop) (wa : DE) : DE := fun ρ M x k => wa ρ M x fun d M1 => od M1 d fun c => k c M1
theorem xe_neg (ha : XE X G a wa) : XE X G (.UnaryOp .USub a pos) (wUn (fun _ d q => ∃ i, d = .int i ∧ q (.int (-i))) wa) :=
  PE.imp (pe_un un_neg ha) fun σ H Q ⟨ρ, F, M, x, k, a, q, kt⟩ => ⟨ρ, F, M, x, _, a, q, fun v d F1 M1 H1 g1 o1 i1 ⟨i, e, q1⟩ => by
    subst e
    exact ⟨i, isD_int i1, kt _ _ F1 M1 H1 g1 o1 .int q1⟩⟩

/-! ### tests -/
/-- truth of what is seen -/
def truD (M : MS) (d : D) (q : Bool → Prop) : Prop :=
  match view M d with
  | .non => q false
  | .bl b => q b
  | .int i => q (i != 0)
  | .str s => s.length ≤ sizeLine ∧ q ((s.length : Int) != 0)
  | .lst ds => q (!ds.isEmpty)
  | .tup ds => q (!ds.isEmpty)
  | .dct es => q (!es.isEmpty)
  | _ => False
def wTru (w : DE) : DT := fun ρ M x k => w ρ M x fun d M1 => truD M1 d fun b => k b M1
def wAnd (w u : DT) : DT := fun ρ M x k => w ρ M x fun b M1 => if b = true then u ρ M1 x k else k false M1
def wOr (w u : DT) : DT := fun ρ M x k => w ρ M x fun b M1 => if b = true then k true M1 else u ρ M1 x k
def wNot (w : DT) : DT := fun ρ M x k => w ρ M x fun b M1 => k (!b) M1
variable {tA tB : DT} {rest : List Expr}
theorem xw_and1 (ha : XT X G a tA) : XW X G (.BoolOp .And [a] pos) tA := pw_and1 ha
theorem xw_or1 (ha : XT X G a tA) : XW X G (.BoolOp .Or [a] pos) tA := pw_or1 ha
theorem xw_and (ha : XT X G a tA) (hb : XW X G (.BoolOp .And (b :: rest) pos) tB) : XW X G (.BoolOp .And (a :: b :: rest) pos) (wAnd tA tB) :=
  PW.imp (pw_and ha hb) fun σ H Q ⟨ρ, F, M, x, k, a, q, kt⟩ => ⟨ρ, F, M, x, _, a, q, fun b F1 M1 H1 g1 o1 q1 => by
    cases b with
    | true =>
      rw [if_pos rfl] at q1 ⊢
      exact ⟨ρ, F1, M1, x, _, a.step g1 o1, q1, fun b F2 M2 H2 g2 o2 q2 => kt b F2 M2 H2 (g1.trans g2) o2 q2⟩
    | false =>
      rw [if_neg (by decide)] at q1 ⊢
      exact kt _ F1 M1 H1 g1 o1 q1⟩
theorem xw_or (ha : XT X G a tA) (hb : XW X G (.BoolOp .Or (b :: rest) pos) tB) : XW X G (.BoolOp .Or (a :: b :: rest) pos) (wOr tA tB) :=
  PW.imp (pw_or ha hb) fun σ H Q ⟨ρ, F, M, x, k, a, q, kt⟩ => ⟨ρ, F, M, x, _, a, q, fun b F1 M1 H1 g1 o1 q1 => by
    cases b with
    | false =>
      rw [if_neg (by decide)] at q1 ⊢
      exact ⟨ρ, F1, M1, x, _, a.step g1 o1, q1, fun b F2 M2 H2 g2 o2 q2 => kt b F2 M2 H2 (g1.trans g2) o2 q2⟩
    | true =>
      rw [if_pos rfl] at q1 ⊢
      exact kt _ F1 M1 H1 g1 o1 q1⟩
theorem xt_not (ha : XT X G a tA) : XT X G (.UnaryOp .Not a pos) (wNot tA) :=
  PT.imp (pt_not ha) fun σ H Q ⟨ρ, F, M, x, k, a, q, kt⟩ => ⟨ρ, F, M, x, _, a, q, fun b F1 M1 H1 g1 o1 q1 => kt _ F1 M1 H1 g1 o1 q1⟩
def wAndV (w u : DE) : DE := fun ρ M x k => w ρ M x fun d M1 => ∃ b, d = .bl b ∧ (if b = true then u ρ M1 x k else k (.bl false) M1)
def wOrV (w u : DE) : DE := fun ρ M x k => w ρ M x fun d M1 => ∃ b, d = .bl b ∧ (if b = true then k (.bl true) M1 else u ρ M1 x k)
def wNotV (w : DE) : DE := fun ρ M x k => w ρ M x fun d M1 => ∃ b, d = .bl b ∧ k (.bl (!b)) M1
theorem xe_one {op} (h : XE X G a wa) : XE X G (.BoolOp op [a] pos) wa := pe_one h
theorem xe_and (ha : XE X G a wa) (hb : XE X G (.BoolOp .And (b :: rest) pos) wb) : XE X G (.BoolOp .And (a :: b :: rest) pos) (wAndV wa wb) :=
  PE.imp (pe_and ha hb) fun σ H Q ⟨ρ, F, M, x, k, a, q, kt⟩ => ⟨ρ, F, M, x, _, a, q, fun v d F1 M1 H1 g1 o1 i1 ⟨b, eb, q1⟩ => by
    subst eb
    refine ⟨b, isD_bl i1, ?_⟩
    cases b with
    | true =>
      rw [if_pos rfl] at q1 ⊢
      exact ⟨ρ, F1, M1, x, _, a.step g1 o1, q1, fun v d F2 M2 H2 g2 o2 i2 q2 => kt v d F2 M2 H2 (g1.trans g2) o2 i2 q2⟩
    | false =>
      rw [if_neg (by decide)] at q1 ⊢
      exact kt _ _ F1 M1 H1 g1 o1 .bl q1⟩
theorem xe_or (ha : XE X G a wa) (hb : XE X G (.BoolOp .Or (b :: rest) pos) wb) : XE X G (.BoolOp .Or (a :: b :: rest) pos) (wOrV wa wb) :=
  PE.imp (pe_or ha hb) fun σ H Q ⟨ρ, F, M, x, k, a, q, kt⟩ => ⟨ρ, F, M, x, _, a, q, fun v d F1 M1 H1 g1 o1 i1 ⟨b, eb, q1⟩ => by
    subst eb
    refine ⟨b, isD_bl i1, ?_⟩
    cases b with
    | false =>
      rw [if_neg (by decide)] at q1 ⊢
      exact ⟨ρ, F1, M1, x, _, a.step g1 o1, q1, fun v d F2 M2 H2 g2 o2 i2 q2 => kt v d F2 M2 H2 (g1.trans g2) o2 i2 q2⟩
    | true =>
      rw [if_pos rfl] at q1 ⊢
      exact kt _ _ F1 M1 H1 g1 o1 .bl q1⟩
theorem xe_not (ha : XE X G a wa) : XE X G (.UnaryOp .Not a pos) (wNotV wa) :=
  PE.imp (pe_not ha) fun σ H Q ⟨ρ, F, M, x, k, a, q, kt⟩ => ⟨ρ, F, M, x, _, a, q, fun v d F1 M1 H1 g1 o1 i1 ⟨b, eb, q1⟩ => by
    subst eb
    exact ⟨b, isD_bl i1, kt _ _ F1 M1 H1 g1 o1 .bl q1⟩⟩
def wIfE (t : DT) (wa wb : DE) : DE := fun ρ M x k => t ρ M x fun b M1 => if b = true then wa ρ M1 x k else wb ρ M1 x k
theorem xe_if {c : Expr} (hc : XT X G c tA) (ha : XE X G a wa) (hb : XE X G b wb) : XE X G (.IfExp c a b pos) (wIfE tA wa wb) :=
  PE.imp (pe_ifExp hc ha hb) fun σ H Q ⟨ρ, F, M, x, k, a, q, kt⟩ => ⟨ρ, F, M, x, _, a, q, fun b F1 M1 H1 g1 o1 q1 => by
    cases b with
    | true =>
      rw [if_pos rfl] at q1 ⊢
      exact ⟨ρ, F1, M1, x, _, a.step g1 o1, q1, fun v d F2 M2 H2 g2 o2 i2 q2 => kt v d F2 M2 H2 (g1.trans g2) o2 i2 q2⟩
    | false =>
      rw [if_neg (by decide)] at q1 ⊢
      exact ⟨ρ, F1, M1, x, _, a.step g1 o1, q1, fun v d F2 M2 H2 g2 o2 i2 q2 => kt v d F2 M2 H2 (g1.trans g2) o2 i2 q2⟩⟩
end

/-! ### what is seen, over values -/
section
variable {K : PySem.W.Frag} {F : Hp} {M : MS} {H : Hp} {v : V} {d : D}
theorem seen (o : HeapOk K F M H) (h : IsD K F v d) : (∃ p, d = .obj p ∧ v = .ref p ∧ ((∃ ds xs, M p = some (.lst ds) ∧ view M d = .lst ds ∧ H p = some (.lst xs) ∧ IsDs K F xs ds) ∨ (∃ es kvs, M p = some (.dct es) ∧ view M d = .dct es ∧ H p = some (.dK kvs) ∧ IsEs K F kvs es) ∨
    (∃ C fs dx gs, M p = some (.ins C fs) ∧ view M d = .ins C fs ∧ H p = some (.ins C dx gs) ∧ IsFs K F gs fs) ∨ (M p = none ∧ view M d = d))) ∨ ((∀ p, d ≠ .obj p) ∧ view M d = d) := by
  cases d with
  | obj p =>
    cases h
    refine .inl ⟨p, rfl, rfl, ?_⟩
    cases e : M p with
    | none => exact .inr (.inr (.inr ⟨rfl, by simp [view, e]⟩))
    | some m =>
      obtain ⟨_, u, hu, q⟩ := o.mu p m e
      cases q with
      | lst q => exact .inl ⟨_, _, rfl, by simp [view, e], hu, q⟩
      | dct q => exact .inr (.inl ⟨_, _, rfl, by simp [view, e], hu, q⟩)
      | ins q => exact .inr (.inr (.inl ⟨_, _, _, _, rfl, by simp [view, e], hu, q⟩))
  | _ => exact .inr ⟨fun p => by simp, rfl⟩
theorem asLst (o : HeapOk K F M H) (h : IsD K F v d) {ds : List D} (e : view M d = .lst ds) : ∃ a xs, v = .ref a ∧ H a = some (.lst xs) ∧ IsDs K F xs ds := by
  rcases seen o h with ⟨p, rfl, rfl, ⟨ds', xs, _, e', hh, q⟩ | ⟨es, kvs, _, e', _⟩ | ⟨C, fs, dx, gs, _, e', _⟩ | ⟨_, e'⟩⟩ | ⟨n, e'⟩
  · rw [e] at e'; cases e'; exact ⟨p, xs, rfl, hh, q⟩
  · rw [e] at e'; cases e'
  · rw [e] at e'; cases e'
  · rw [e] at e'; cases e'
  · rw [e] at e'
    subst e'
    cases h with
    | lst s q => exact ⟨_, _, rfl, o.sub _ _ s, q⟩
theorem asTup (o : HeapOk K F M H) (h : IsD K F v d) {ds : List D} (e : view M d = .tup ds) : ∃ a xs, v = .ref a ∧ SqT K H a xs ∧ IsDs K F xs ds ∧ d = .tup ds := by
  rcases seen o h with ⟨p, rfl, rfl, ⟨ds', xs, _, e', hh, q⟩ | ⟨es, kvs, _, e', _⟩ | ⟨C, fs, dx, gs, _, e', _⟩ | ⟨_, e'⟩⟩ | ⟨n, e'⟩
  · rw [e] at e'; cases e'
  · rw [e] at e'; cases e'
  · rw [e] at e'; cases e'
  · rw [e] at e'; cases e'
  · rw [e] at e'
    subst e'
    cases h with
    | tup s q => exact ⟨_, _, rfl, sqt_mono o.sub s, q, rfl⟩
theorem asDct (o : HeapOk K F M H) (h : IsD K F v d) {es : List (Key × D)} (e : view M d = .dct es) : ∃ a kvs, v = .ref a ∧ H a = some (.dK kvs) ∧ IsEs K F kvs es := by
  rcases seen o h with ⟨p, rfl, rfl, ⟨ds', xs, _, e', hh, q⟩ | ⟨es, kvs, _, e', hh, q⟩ | ⟨C, fs, dx, gs, _, e', _⟩ | ⟨_, e'⟩⟩ | ⟨n, e'⟩
  · rw [e] at e'; cases e'
  · rw [e] at e'; cases e'; exact ⟨p, kvs, rfl, hh, q⟩
  · rw [e] at e'; cases e'
  · rw [e] at e'; cases e'
  · rw [e] at e'
    subst e'
    cases h with
    | dct s q => exact ⟨_, _, rfl, o.sub _ _ s, q⟩
theorem asIns (o : HeapOk K F M H) (h : IsD K F v d) {C : Addr} {fs : List (Str × D)} (e : view M d = .ins C fs) : ∃ a dx gs, v = .ref a ∧ H a = some (.ins C dx gs) ∧ IsFs K F gs fs := by
  rcases seen o h with ⟨p, rfl, rfl, ⟨ds', xs, _, e', hh, q⟩ | ⟨es, kvs, _, e', hh, q⟩ | ⟨C', fs', dx, gs, _, e', hh, q⟩ | ⟨_, e'⟩⟩ | ⟨n, e'⟩
  · rw [e] at e'; cases e'
  · rw [e] at e'; cases e'
  · rw [e] at e'; cases e'; exact ⟨p, dx, gs, rfl, hh, q⟩
  · rw [e] at e'; cases e'
  · rw [e] at e'
    subst e'
    cases h with
    | ins s q => exact ⟨_, _, _, rfl, o.sub _ _ s, q⟩
theorem asInt (o : HeapOk K F M H) (h : IsD K F v d) {i : Int} (e : view M d = .int i) : v = .int i ∧ d = .int i := by
  rcases seen o h with ⟨p, rfl, rfl, ⟨ds', xs, _, e', hh, q⟩ | ⟨es, kvs, _, e', hh, q⟩ | ⟨C', fs', dx, gs, _, e', hh, q⟩ | ⟨_, e'⟩⟩ | ⟨n, e'⟩
  · rw [e] at e'; cases e'
  · rw [e] at e'; cases e'
  · rw [e] at e'; cases e'
  · rw [e] at e'; cases e'
  · rw [e] at e'
    subst e'
    exact ⟨isD_int h, rfl⟩
theorem asStr (o : HeapOk K F M H) (h : IsD K F v d) {i : Str} (e : view M d = .str i) : v = .str i ∧ d = .str i := by
  rcases seen o h with ⟨p, rfl, rfl, ⟨ds', xs, _, e', hh, q⟩ | ⟨es, kvs, _, e', hh, q⟩ | ⟨C', fs', dx, gs, _, e', hh, q⟩ | ⟨_, e'⟩⟩ | ⟨n, e'⟩
  · rw [e] at e'; cases e'
  · rw [e] at e'; cases e'
  · rw [e] at e'; cases e'
  · rw [e] at e'; cases e'
  · rw [e] at e'
    subst e'
    exact ⟨isD_str h, rfl⟩
theorem asBl (o : HeapOk K F M H) (h : IsD K F v d) {i : Bool} (e : view M d = .bl i) : v = .bl i ∧ d = .bl i := by
  rcases seen o h with ⟨p, rfl, rfl, ⟨ds', xs, _, e', hh, q⟩ | ⟨es, kvs, _, e', hh, q⟩ | ⟨C', fs', dx, gs, _, e', hh, q⟩ | ⟨_, e'⟩⟩ | ⟨n, e'⟩
  · rw [e] at e'; cases e'
  · rw [e] at e'; cases e'
  · rw [e] at e'; cases e'
  · rw [e] at e'; cases e'
  · rw [e] at e'
    subst e'
    exact ⟨isD_bl h, rfl⟩
theorem asNon (o : HeapOk K F M H) (h : IsD K F v d) (e : view M d = .non) : v = .non ∧ d = .non := by
  rcases seen o h with ⟨p, rfl, rfl, ⟨ds', xs, _, e', hh, q⟩ | ⟨es, kvs, _, e', hh, q⟩ | ⟨C', fs', dx, gs, _, e', hh, q⟩ | ⟨_, e'⟩⟩ | ⟨n, e'⟩
  · rw [e] at e'; cases e'
  · rw [e] at e'; cases e'
  · rw [e] at e'; cases e'
  · rw [e] at e'; cases e'
  · rw [e] at e'
    subst e'
    cases h; exact ⟨rfl, rfl⟩
theorem IsDs.emp {xs : List V} {ds : List D} (h : IsDs K F xs ds) : xs.isEmpty = ds.isEmpty := by cases h <;> rfl
theorem IsEs.emp {xs : List (Key × V)} {ds : List (Key × D)} (h : IsEs K F xs ds) : xs.isEmpty = ds.isEmpty := by cases h <;> rfl
end
section
variable {X : Cx} {G : XK} {a : Expr} {wa : DE} {pos : Pos}
theorem tru_lift {M : MS} {F H : Hp} {v : V} {d : D} {q : Bool → Prop} (o : HeapOk X.K F M H) (i : IsD X.K F v d) (h : truD M d q) : ∃ b, TruV X.K v H b ∧ q b := by
  unfold truD at h
  split at h
  · rename_i e; obtain ⟨rfl, _⟩ := asNon o i e; exact ⟨false, rfl, h⟩
  · rename_i b e; obtain ⟨rfl, _⟩ := asBl o i e; exact ⟨b, rfl, h⟩
  · rename_i b e; obtain ⟨rfl, _⟩ := asInt o i e; exact ⟨_, rfl, h⟩
  · rename_i b e; obtain ⟨rfl, _⟩ := asStr o i e; exact ⟨_, ⟨h.1, rfl⟩, h.2⟩
  · rename_i ds e; obtain ⟨p, xs, rfl, s, r⟩ := asLst o i e; exact ⟨_, .inl ⟨xs, .of s, by rw [r.emp]⟩, h⟩
  · rename_i ds e; obtain ⟨p, xs, rfl, s, r, _⟩ := asTup o i e; exact ⟨_, .inr (.inl ⟨xs, s, by rw [r.emp]⟩), h⟩
  · rename_i ds e; obtain ⟨p, kvs, rfl, s, r⟩ := asDct o i e; exact ⟨_, .inr (.inr ⟨kvs, s, by rw [r.emp]⟩), h⟩
  · exact h.elim
theorem xt_tru (ha : XE X G a wa) (he : ∀ whole, isTrue a X.env whole = (do let v ← whole; standAt a.pos; holding [v] (truthy v)) := by intro _; rfl) : XT X G a (wTru wa) :=
  PT.imp (pt_truth ha he) fun σ H Q ⟨ρ, F, M, x, k, a, q, kt⟩ => ⟨ρ, F, M, x, _, a, q, fun v d F1 M1 H1 g1 o1 i1 q1 => by
    obtain ⟨b, e, q2⟩ := tru_lift o1 i1 q1
    exact ⟨b, e, kt b F1 M1 H1 g1 o1 q2⟩⟩
end
end TV

set_option Elab.async false
set_option linter.all false
set_option maxRecDepth 100000
set_option maxHeartbeats 1000000
namespace TV
open PySem PySem.Spec PyProof.Rows L2

/-! ### statements -/
structure Et (K : PySem.W.Frag) (F : Hp) (M : MS) (H : Hp) (E : DEnds) (D : Ends) : Prop where
  nx : ∀ σ' ρ' F' M' H', Gr F M H F' M' H' → HeapOk K F' M' H' → EnvOk K F' σ' ρ' → E.nx ρ' M' → D.nx σ' H'
  rt : ∀ v d F' M' H', Gr F M H F' M' H' → HeapOk K F' M' H' → IsD K F' v d → E.rt d M' → D.rt v H'
  bk : ∀ σ' ρ' F' M' H', Gr F M H F' M' H' → HeapOk K F' M' H' → EnvOk K F' σ' ρ' → E.bk ρ' M' → D.bk σ' H'
  ct : ∀ σ' ρ' F' M' H', Gr F M H F' M' H' → HeapOk K F' M' H' → EnvOk K F' σ' ρ' → E.ct ρ' M' → D.ct σ' H'
theorem Et.step {K : PySem.W.Frag} {F F1 : Hp} {M M1 : MS} {H H1 : Hp} {E : DEnds} {D : Ends} (h : Et K F M H E D) (g : Gr F M H F1 M1 H1) : Et K F1 M1 H1 E D :=
  ⟨fun σ ρ F' M' H' g' => h.nx σ ρ F' M' H' (g.trans g'), fun v d F' M' H' g' => h.rt v d F' M' H' (g.trans g'), fun σ ρ F' M' H' g' => h.bk σ ρ F' M' H' (g.trans g'), fun σ ρ F' M' H' g' => h.ct σ ρ F' M' H' (g.trans g')⟩
def rS (K : PySem.W.Frag) (G : XK) (w : DS) : TS := fun D σ H => ∃ ρ F M x E, At K G σ ρ F M H x ∧ w E ρ M x ∧ Et K F M H E D
abbrev YS (X : Cx) (G : XK) (st : Stmt) (w : DS) : Prop := PS X st (rS X.K G w)
abbrev YSs (X : Cx) (G : XK) (st : List Stmt) (w : DS) : Prop := PSs X st (rS X.K G w)
def wNext : DS := fun E ρ M _ => E.nx ρ M
def wSeq (t u : DS) : DS := fun E ρ M x => t { E with nx := fun ρ' M' => u E ρ' M' x } ρ M x
def wDrop (w : DE) : DS := fun E ρ M x => w ρ M x fun _ M1 => E.nx ρ M1
def wRet (w : DE) : DS := fun E ρ M x => w ρ M x E.rt
def wRetN : DS := fun E _ M _ => E.rt .non M
def wIf (c : DT) (t u : DS) : DS := fun E ρ M x => c ρ M x fun b M1 => if b = true then t E ρ M1 x else u E ρ M1 x
abbrev DG := D → DSt → MS → (DSt → MS → Prop) → Prop
def wAsg (w : DE) (g : DG) : DS := fun E ρ M x => w ρ M x fun d M1 => g d ρ M1 fun ρ' M' => E.nx ρ' M'
def wSet (i : Nat) (w : DE) : DS := fun E ρ M x => w ρ M x fun d M1 => E.nx (ρ.set i (some d)) M1
section
variable {X : Cx} {G : XK} {st : Stmt} {rest : List Stmt} {w u : DS} {e : Expr} {we : DE} {pos : Pos}
theorem yss_nil : YSs X G [] wNext := PSs.imp pss_nil fun D σ H ⟨ρ, F, M, x, E, a, q, et⟩ => et.nx σ ρ F M H .refl a.heap a.env q
theorem yss_cons (h1 : YS X G st w) (h2 : YSs X G rest u) : YSs X G (st :: rest) (wSeq w u) :=
  PSs.imp (pss_cons h1 h2) fun D σ H ⟨ρ, F, M, x, E, a, q, et⟩ => ⟨ρ, F, M, x, _, a, q,
    ⟨fun σ' ρ' F' M' H' g o en z => ⟨ρ', F', M', x, E, ⟨en, o, a.xok.step g⟩, z, et.step g⟩, et.rt, et.bk, et.ct⟩⟩
theorem yss_one (h1 : YS X G st w) : YSs X G [st] w := pss_one h1
theorem ys_expr (he : XE X G e we) (hs : swapsWith e none pos.line X.env = pure false := by rfl) : YS X G (.Expr e pos) (wDrop we) :=
  PS.imp (ps_expr he hs) fun D σ H ⟨ρ, F, M, x, E, a, q, et⟩ => ⟨ρ, F, M, x, _, a, q, fun v d F1 M1 H1 g o i q1 => et.nx σ ρ F1 M1 H1 g o (a.env.mono g.ex) q1⟩
theorem ys_ret (he : XE X G e we) : YS X G (.Return (some e) pos) (wRet we) :=
  PS.imp (ps_ret he) fun D σ H ⟨ρ, F, M, x, E, a, q, et⟩ => ⟨ρ, F, M, x, _, a, q, fun v d F1 M1 H1 g o i q1 => et.rt v d F1 M1 H1 g o i q1⟩
theorem ys_retN : YS X G (.Return none pos) wRetN := PS.imp ps_retN fun D σ H ⟨ρ, F, M, x, E, a, q, et⟩ => et.rt .non .non F M H .refl a.heap .non q
theorem ys_pass : YS X G (.Pass pos) wNext := PS.imp ps_pass fun D σ H ⟨ρ, F, M, x, E, a, q, et⟩ => et.nx σ ρ F M H .refl a.heap a.env q
theorem ys_doc {s j pos pos'} : YS X G (.Expr (.Constant (.str s) j pos) pos') wNext := PS.imp ps_doc fun D σ H ⟨ρ, F, M, x, E, a, q, et⟩ => et.nx σ ρ F M H .refl a.heap a.env q
theorem ys_if {c : Expr} {a b : List Stmt} {tc : DT} (hc : XT X G c tc) (ha : YSs X G a w) (hb : YSs X G b u) : YS X G (.If c a b pos) (wIf tc w u) :=
  PS.imp (ps_if hc ha hb) fun D σ H ⟨ρ, F, M, x, E, a, q, et⟩ => ⟨ρ, F, M, x, _, a, q, fun b F1 M1 H1 g1 o1 q1 => by
    cases b with
    | true =>
      rw [if_pos rfl] at q1 ⊢
      exact ⟨ρ, F1, M1, x, E, a.step g1 o1, q1, et.step g1⟩
    | false =>
      rw [if_neg (by decide)] at q1 ⊢
      exact ⟨ρ, F1, M1, x, E, a.step g1 o1, q1, et.step g1⟩⟩
theorem ys_set {i : Nat} {x : Str} {e : Expr} {pos' : Pos} (hN : X.N.Nodup) (hi : X.N[i]? = some x) (hx : Loc X.env.scope x) (he : XE X G e we) (hs : swapsWith e (some (.Name x pos')) pos.line X.env = pure false := by rfl) (hf : X.fn x = true ∨ X.env.scope.names.lookup x = some .local := by first | exact .inl rfl | exact .inr rfl | assumption) :
    YS X G (.Assign [.Name x pos'] e pos) (wSet i we) :=
  PS.imp (ps_set hN hi hx he hs hf) fun D σ H ⟨ρ, F, M, x, E, a, q, et⟩ => ⟨ρ, F, M, x, _, a, q, fun v d F1 M1 H1 g1 o1 i1 q1 => et.nx _ _ F1 M1 H1 g1 o1 ((a.env.mono g1.ex).set i i1) q1⟩

/-! ### targets -/
def rG (K : PySem.W.Frag) (g : DG) : TG := fun v σ H Q => ∃ ρ F M d k, EnvOk K F σ ρ ∧ HeapOk K F M H ∧ IsD K F v d ∧ g d ρ M k ∧ ∀ σ' ρ' F' M' H', Gr F M H F' M' H' → HeapOk K F' M' H' → EnvOk K F' σ' ρ' → k ρ' M' → Q σ' H'
abbrev XG (X : Cx) (tg : Expr) (g : DG) : Prop := PG X tg (rG X.K g)
abbrev DGs := List D → DSt → MS → (DSt → MS → Prop) → Prop
def rGs (K : PySem.W.Frag) (g : DGs) : TGs := fun vs σ H Q => ∃ ρ F M ds k, EnvOk K F σ ρ ∧ HeapOk K F M H ∧ IsDs K F vs ds ∧ g ds ρ M k ∧ ∀ σ' ρ' F' M' H', Gr F M H F' M' H' → HeapOk K F' M' H' → EnvOk K F' σ' ρ' → k ρ' M' → Q σ' H'
abbrev XGs (X : Cx) (tgs : List Expr) (g : DGs) : Prop := PGs X tgs (rGs X.K g)
theorem PG.imp {X : Cx} {e : Expr} {t t' : TG} (h : PG X e t) (f : ∀ v σ H Q, t' v σ H Q → t v σ H Q) : PG X e t' := ⟨fun pins s σ H v u Q I r q => h.run pins s σ H v u Q I r (f v σ H Q q)⟩
theorem PGs.imp {X : Cx} {e : List Expr} {t t' : TGs} (h : PGs X e t) (f : ∀ v σ H Q, t' v σ H Q → t v σ H Q) : PGs X e t' := ⟨fun pins s σ H v u Q I r q => h.run pins s σ H v u Q I r (f v σ H Q q)⟩
def wgName (i : Nat) : DG := fun d ρ M k => k (ρ.set i (some d)) M
theorem xg_name {i : Nat} {x : Str} (hN : X.N.Nodup) (hi : X.N[i]? = some x) (hx : Loc X.env.scope x) (hf : X.fn x = true ∨ X.env.scope.names.lookup x = some .local := by first | exact .inl rfl | exact .inr rfl | assumption) : XG X (.Name x pos) (wgName i) :=
  PG.imp (pg_name hN hi hx hf) fun v σ H Q ⟨ρ, F, M, d, k, en, o, i1, q, kt⟩ => kt _ _ F M H .refl o (en.set i i1) q
def wgNil : DGs := fun ds ρ M k => ds = [] ∧ k ρ M
def wgCons (g : DG) (gs : DGs) : DGs := fun ds ρ M k => ∃ d r, ds = d :: r ∧ g d ρ M fun ρ' M' => gs r ρ' M' k
theorem xgs_nil : XGs X [] wgNil := PGs.imp pgs_nil fun v σ H Q ⟨ρ, F, M, d, k, en, o, i1, ⟨e, q⟩, kt⟩ => by
  subst e
  cases i1
  exact ⟨rfl, kt _ _ F M H .refl o en q⟩
theorem xgs_cons {e : Expr} {es : List Expr} {g : DG} {gs : DGs} (h1 : XG X e g) (h2 : XGs X es gs)
    (hs : (assignEach (e :: es) X.env).map (·.2) = assign e X.env :: (assignEach es X.env).map (·.2) := by rfl) : XGs X (e :: es) (wgCons g gs) :=
  PGs.imp (pgs_cons h1 h2 hs) fun v σ H Q ⟨ρ, F, M, ds, k, en, o, i1, ⟨d, r, e, q⟩, kt⟩ => by
    subst e
    cases i1 with
    | cons i1 ir =>
      exact ⟨_, _, rfl, ρ, F, M, d, _, en, o, i1, q, fun σ' ρ' F' M' H' g' o' en' q' => ⟨ρ', F', M', r, k, en', o', ir.mono g'.ex, q', fun σ2 ρ2 F2 M2 H2 g2 => kt σ2 ρ2 F2 M2 H2 (g'.trans g2)⟩⟩
def wgTup (n : Nat) (gs : DGs) : DG := fun d ρ M k => ∃ ds, d = .tup ds ∧ ds.length = n ∧ gs ds ρ M k
theorem xg_tup {es : List Expr} {j : Nat} {gs : DGs} {n : Nat} (hc : X.calm = true) (h : XGs X es gs)
    (hn : (assignEach es X.env).length = n := by rfl) (hst : (assignEach es X.env).findIdx? (·.1) = none := by rfl) : XG X (.Tuple es j pos) (wgTup n gs) :=
  PG.imp (pg_tup hc h hn hst) fun v σ H Q ⟨ρ, F, M, d, k, en, o, i1, ⟨ds, e, hl, q⟩, kt⟩ => by
    subst e
    cases i1 with
    | tup s r => exact ⟨_, _, rfl, sqt_mono o.sub s, by rw [r.len]; exact hl, ρ, F, M, ds, k, en, o, r, q, kt⟩
theorem ys_asg {tg e : Expr} {g : DG} (he : XE X G e we) (hg : XG X tg g) (hs : swapsWithSole [tg] e pos.line X.env = pure false := by rfl) (hw : swappedStores [tg] e X.env = pure none := by rfl)
    (h1 : (assignEach [tg] X.env).map (·.2) = [assign tg X.env] := by rfl) : YS X G (.Assign [tg] e pos) (wAsg we g) :=
  PS.imp (ps_asg he hg hs hw h1) fun D σ H ⟨ρ, F, M, x, E, a, q, et⟩ => ⟨ρ, F, M, x, _, a, q, fun v d F1 M1 H1 g1 o1 i1 q1 =>
    ⟨ρ, F1, M1, d, _, a.env.mono g1.ex, o1, i1, q1, fun σ' ρ' F' M' H' g' o' en' z => et.nx σ' ρ' F' M' H' (g1.trans g') o' en' z⟩⟩
/-- a, b = x, y with plain local names -/
def wPar (i j : Nat) (wa : DA) : DS := fun E ρ M x => wa ρ M x fun ds M1 => ∃ d e, ds = [d, e] ∧ E.nx ((ρ.set i (some d)).set j (some e)) M1
theorem ys_par {i j : Nat} {x y : Str} {a b : Expr} {wa : DA} {px py pt : Pos} {kt k2 pt2} (hc : X.calm = true) (hN : X.N.Nodup) (hi : X.N[i]? = some x) (hj : X.N[j]? = some y) (hij : i ≠ j)
    (hx : X.env.scope.names.lookup x = some .local) (hy : X.env.scope.names.lookup y = some .local) (ha : XA X G [a, b] wa)
    (hw : swappedStores [.Tuple [.Name x px, .Name y py] kt pt] (.Tuple [a, b] k2 pt2) X.env = pure (some [x, y]))
    (hs : swapsWithSole [.Tuple [.Name x px, .Name y py] kt pt] (.Tuple [a, b] k2 pt2) pos.line X.env = pure false := by rfl) :
    YS X G (.Assign [.Tuple [.Name x px, .Name y py] kt pt] (.Tuple [a, b] k2 pt2) pos) (wPar i j wa) :=
  PS.imp (ps_par hc hN hi hj hij hx hy ha hw hs) fun D σ H ⟨ρ, F, M, x, E, a, q, et⟩ => ⟨ρ, F, M, x, _, a, q, fun vs ds F1 M1 H1 g1 o1 i1 ⟨d, e, hd, q1⟩ => by
    subst hd
    cases i1 with
    | cons h1 i1 => cases i1 with
      | cons h2 i1 =>
        cases i1
        exact ⟨_, _, rfl, et.nx _ _ F1 M1 H1 g1 o1 (((a.env.mono g1.ex).set i h1).set j h2) q1⟩⟩
end

/-! ### new lists, tuples -/
def wTup (w : DA) : DE := fun ρ M x k => w ρ M x fun ds M1 => ds.length ≤ 100000 ∧ k (.tup ds) M1
/-- a list that none changes -/
def wFrz (w : DA) : DE := fun ρ M x k => w ρ M x fun ds M1 => k (.lst ds) M1
/-- a list for the store -/
def wMut (w : DA) : DE := fun ρ M x k => w ρ M x fun ds M1 => ∀ p, M1 p = none → k (.obj p) (updM M1 p (.lst ds))
def wDisp (w : DA) : DA := fun ρ M x k => w ρ M x fun ds M1 => ds.length ≤ 100000 ∧ k ds M1
theorem sz5 {n : Nat} (h : n ≤ 100000) : n ≤ sizeLine := Nat.le_trans h (by decide)
section
variable {X : Cx} {G : XK} {e : Expr} {es : List Expr} {w : DA} {pos : Pos}
theorem xe_tup {k1} (h : XA X G es w) : XE X G (.Tuple es k1 pos) (wTup w) :=
  PE.imp (pe_tup h) fun σ H Q ⟨ρ, F, M, x, k, a, q, kt⟩ => ⟨ρ, F, M, x, _, a, q, fun vs ds F1 M1 H1 g1 o1 i1 ⟨hl, q1⟩ =>
    ⟨by rw [i1.len]; exact sz5 hl, fun p hp => kt _ _ (upd F1 p (.tup vs)) M1 _ (g1.trans (Gr.frz (o1.noF hp) hp)) (o1.frz hp) (.tup (.of upd_same) (i1.mono (Same.upd (o1.noF hp)))) q1⟩⟩
theorem xl_lst (h : XA X G es w) : XL X G (.List es pos) (wDisp w) :=
  PE.imp (pe_lst h) fun σ H Q ⟨ρ, F, M, x, k, a, q, kt⟩ => ⟨ρ, F, M, x, _, a, q, fun vs ds F1 M1 H1 g1 o1 i1 ⟨hl, q1⟩ =>
    ⟨by rw [i1.len]; exact sz5 hl, fun p hp => kt p vs ds F1 M1 _ (g1.trans (Gr.newU hp)) (o1.newU hp) (by
      cases e : H p with
      | none => rfl
      | some u => exact absurd hp (g1.dom p (by rw [e]; simp))) upd_same (o1.noF hp) (o1.noM hp) i1 q1⟩⟩
theorem Gr.adopt {F F1 : Hp} {M M1 : MS} {H H1 : Hp} {p : Addr} {o : HO} (g : Gr F M H F1 M1 H1) (hp : H p = none) (nf : F1 p = none) : Gr F M H (upd F1 p o) M1 H1 :=
  ⟨g.ex.trans (Same.upd nf), fun b z => by
    by_cases y : b = p
    · subst y; exact .inr (.inr hp)
    · rw [upd_ne y] at z; exact g.fz b z, g.mu, g.fr, g.dom⟩
theorem Gr.adoptM {F F1 : Hp} {M M1 : MS} {H H1 : Hp} {p : Addr} {m : MO} (g : Gr F M H F1 M1 H1) (hp : H p = none) : Gr F M H F1 (updM M1 p m) H1 :=
  ⟨g.ex, g.fz, fun b z => by
    by_cases y : b = p
    · subst y; exact .inr hp
    · rw [updM_ne y] at z; exact g.mu b z, g.fr, g.dom⟩
theorem fromS {K : PySem.W.Frag} {F F1 : Hp} {M M1 : MS} {H H1 : Hp} {p : Addr} (g : Gr F M H F1 M1 H1) (o : HeapOk K F M H) (hp : H p = none) : p ≠ sysModules := o.noS hp
theorem xl_frz (h : XL X G e w) : XE X G e (wFrz w) :=
  PE.imp h fun σ H Q ⟨ρ, F, M, x, k, a, q, kt⟩ => ⟨ρ, F, M, x, _, a, q, fun p vs ds F1 M1 H1 g1 o1 hp e1 f1 m1 i1 q1 =>
    kt _ _ (upd F1 p (.lst vs)) M1 H1 (g1.adopt hp f1) (o1.take e1 f1 m1 (fromS g1 a.heap hp)) (.lst upd_same (i1.mono (Same.upd f1))) q1⟩
theorem xl_mut (h : XL X G e w) : XE X G e (wMut w) :=
  PE.imp h fun σ H Q ⟨ρ, F, M, x, k, a, q, kt⟩ => ⟨ρ, F, M, x, _, a, q, fun p vs ds F1 M1 H1 g1 o1 hp e1 f1 m1 i1 q1 =>
    kt _ _ F1 (updM M1 p (.lst ds)) H1 (g1.adoptM hp) (o1.takeM e1 f1 (.lst i1) (fromS g1 a.heap hp)) .obj (q1 p m1)⟩
theorem fresh0 {F : Hp} {M : MS} {H F1 H1 : Hp} {M1 : MS} (g : Gr F M H F1 M1 H1) {p : Addr} (n : H1 p = none) : H p = none := by
  cases e : H p with
  | none => rfl
  | some u => exact absurd n (g.dom p (by rw [e]; simp))
/-- a name's thing in the store, given away: from here on it is as it is -/
def wMelt (i : Nat) : DE := fun ρ M _ k => ∃ p, ρ[i]? = some (some (.obj p)) ∧ ((∃ ds, M p = some (.lst ds) ∧ k (.lst ds) (delM M p)) ∨ (∃ es, M p = some (.dct es) ∧ k (.dct es) (delM M p)) ∨ ∃ C fs, M p = some (.ins C fs) ∧ k (.ins C fs) (delM M p))
theorem xmelt (i : Nat) {x : Str} {pos : Pos} (hN : X.N[i]? = some x := by rfl) (hv : Vis X.env.scope x := by first | exact Or.inl rfl | exact Or.inr (Or.inl rfl) | exact Or.inr (Or.inr rfl)) (hd : (x == ("__debug__" : Str)) = false := by decide)
    (hcd : (x == ("__classdict__" : Str)) = false := by decide) : XE X G (.Name x pos) (wMelt i) :=
  PE.imp (pe_var hN hv hd hcd) fun σ H Q ⟨ρ, F, M, x, k, a, ⟨p, e, q⟩, kt⟩ => by
    obtain ⟨v, ev, hv⟩ := a.env.at_ i _ e
    cases hv
    refine ⟨_, ev, ?_⟩
    rcases q with ⟨ds, em, q⟩ | ⟨es, em, q⟩ | ⟨C, fs, em, q⟩
    · obtain ⟨nf, o, eo, mo⟩ := a.heap.mu p _ em
      cases mo with
      | lst r => exact kt _ _ (upd F p (.lst _)) (delM M p) H (.melt nf em) (a.heap.melt em eo) (.lst upd_same (r.mono (Same.upd nf))) q
    · obtain ⟨nf, o, eo, mo⟩ := a.heap.mu p _ em
      cases mo with
      | dct r => exact kt _ _ (upd F p (.dK _)) (delM M p) H (.melt nf em) (a.heap.melt em eo) (.dct upd_same (r.mono (Same.upd nf))) q
    · obtain ⟨nf, o, eo, mo⟩ := a.heap.mu p _ em
      cases mo with
      | ins r => exact kt _ _ (upd F p (.ins _ _ _)) (delM M p) H (.melt nf em) (a.heap.melt em eo) (.ins upd_same (r.mono (Same.upd nf))) q
end

/-! ### calls of one's own defs -/
/-- a def's promise over trees -/
abbrev DSp := List D → MS → XD → KD → Prop
def rSp (K : PySem.W.Frag) (sp : DSp) : Sp := fun vs H Q E => ∃ ds F M x k, HeapOk K F M H ∧ IsDs K F vs ds ∧ sp ds M x k ∧ Kt K F M H k Q ∧ XOk K E F M H x
def wCall (sp : DSp) (w : DA) : DE := fun ρ M x k => w ρ M x fun ds M1 => sp ds M1 x k
section
variable {X : Cx} {CX : CXT} {G : XK} {k : Nat} {f : Addr} {fd : FuncData} {ps : List Str} {sp : DSp} {x : Str} {p pos : Pos} {e : Expr} {es : List Expr} {w : DA}
theorem xe_call (F : FnOk X.prog X.w X.K X.mg X.base CX k f fd ps (rSp X.K sp)) (hr : Room k X.A) (hg : Gl X x) (hm : X.mg x = some (.ref f)) (hk : PySem.W.keepIn X.K (.ref f) = true) (hb : Binds X.K fd ps []) (hx : Passes CX X G)
    (ha : XA X G (e :: es) w) (hdb : (x == ("__debug__" : Str)) = false := by decide) (he : starEach (e :: es) X.env = (false, eval e X.env) :: starEach es X.env := by rfl) (hpl : (backTo pos (starEach es X.env)).any (·.1) = false := by rfl) :
    XE X G (.Call (.Name x p) (e :: es) [] pos) (wCall sp w) :=
  PE.imp (pe_call F hr hg hm hk hb .nil hx ha hdb he hpl) fun σ H Q ⟨ρ, F, M, x, k, a, q, kt⟩ => ⟨ρ, F, M, x, _, a, q, fun vs ds F1 M1 H1 g1 o1 i1 q1 => by
    show rSp X.K sp (vs ++ []) H1 Q G
    rw [List.append_nil]
    exact ⟨ds, F1, M1, x, k, o1, i1, q1, fun v d F2 M2 H2 g2 => kt v d F2 M2 H2 (g1.trans g2), a.xok.step g1⟩⟩
/-- .. with values for the parameters that are left out -/
theorem xe_callD {dvs : List V} {dds : List D} {us : List Value} (F : FnOk X.prog X.w X.K X.mg X.base CX k f fd ps (rSp X.K sp)) (hr : Room k X.A) (hg : Gl X x) (hm : X.mg x = some (.ref f)) (hk : PySem.W.keepIn X.K (.ref f) = true) (hb : Binds X.K fd ps us) (hd : Vals dvs us) (hdd : ∀ F, IsDs X.K F dvs dds) (hx : Passes CX X G)
    (ha : XA X G (e :: es) w) (hdb : (x == ("__debug__" : Str)) = false := by decide) (he : starEach (e :: es) X.env = (false, eval e X.env) :: starEach es X.env := by rfl) (hpl : (backTo pos (starEach es X.env)).any (·.1) = false := by rfl) :
    XE X G (.Call (.Name x p) (e :: es) [] pos) (wCall (fun ds => sp (ds ++ dds)) w) :=
  PE.imp (pe_call F hr hg hm hk hb hd hx ha hdb he hpl) fun σ H Q ⟨ρ, F, M, x, k, a, q, kt⟩ => ⟨ρ, F, M, x, _, a, q, fun vs ds F1 M1 H1 g1 o1 i1 q1 =>
    ⟨ds ++ dds, F1, M1, x, k, o1, i1.app (hdd F1), q1, fun v d F2 M2 H2 g2 => kt v d F2 M2 H2 (g1.trans g2), a.xok.step g1⟩⟩
end
/-- the slots at the start -/
def start0 (N : List Str) (ds : List D) : DSt := ds.map some ++ List.replicate (N.length - ds.length) none
section
variable {P : Program} {w : World} {K : PySem.W.Frag} {mg : Str → Option Value} {base : Heap}
theorem start_env {F : Hp} {N : List Str} {vs : List V} {ds : List D} (h : IsDs K F vs ds) (hl : ds.length ≤ N.length) : EnvOk K F (L2.start N vs) (start0 N ds) := by
  unfold L2.start start0
  refine ⟨by simp [h.len], fun i d e => ?_⟩
  by_cases hi : i < ds.length
  · rw [List.getElem?_append_left (by simpa using hi)] at e
    rw [List.getElem?_map] at e
    cases q : ds[i]? with
    | none => rw [q] at e; simp at e
    | some d' =>
      rw [q] at e
      simp at e
      subst e
      obtain ⟨v, ev, hv⟩ := h.get i q
      refine ⟨v, ?_, hv⟩
      rw [List.getElem?_append_left (by simpa [h.len] using hi), List.getElem?_map, ev]
      rfl
  · rw [List.getElem?_append_right (by simpa using hi)] at e
    rw [List.getElem?_replicate] at e
    split at e <;> simp at e
/-- THE RULE for a def whose body lets no exception out -/
theorem fnD {x qual : Str} {st : Stmt} {f : Addr} {fd : FuncData} {N ps : List Str} {k : Nat} {sp : DSp} (F : Fun K x qual st f fd) (S : FnScope N ps (defScope st)) (len : ∀ ds M x k, sp ds M x k → ds.length = ps.length)
    (hN : ps.length ≤ N.length)
    (hbody : ∀ (cdv : Value) (A : Around) (outer : List Env) (s : Shared) (H : Hp) (E : XK), Room k (A.deeper (envOfC qual (defScope st) s.heap.objs.size f cdv)) →
      ∃ w', YSs (cxOf CX0 P w K mg base N qual (defScope st) f cdv A outer s H E).nox E0 (defBody st) w' ∧
        ∀ ds M kk, sp ds M (fun _ _ _ => False) kk → w' { nx := fun _ M => kk .non M, rt := kk } (start0 N ds) M (fun _ _ _ => False))
    (hX : ∀ ds M x kk, sp ds M x kk → sp ds M (fun _ _ _ => False) kk) :
    FnOk P w K mg base CX0 (k + 1) f fd ps (rSp K sp) := by
  refine F.ok S (fun vs H Q E h => ?_) (fun cdv A outer s H vs Q E hr h => ?_)
  · obtain ⟨ds, F, M, x, kk, o, i, q, _⟩ := h
    rw [i.len]; exact len _ _ _ _ q
  · obtain ⟨w', hw, hq⟩ := hbody cdv A outer s H E hr
    refine ⟨_, hw, ?_⟩
    obtain ⟨ds, F, M, x, kk, o, i, q, kt, xo⟩ := h
    refine ⟨start0 N ds, F, M, _, _, ⟨start_env i (by rw [len _ _ _ _ q]; exact hN), o, fun _ _ _ _ _ _ _ _ _ _ _ z => z.elim⟩, hq ds M kk (hX _ _ _ _ q), ⟨fun σ' ρ' F' M' H' g o' en z => ?_, fun v d F' M' H' g o' i' z => kt v d F' M' H' g o' i' z, fun _ _ _ _ _ _ _ _ z => z.elim, fun _ _ _ _ _ _ _ _ z => z.elim⟩⟩
    exact kt .non .non F' M' H' g o' .non z
end

/-! ### calls of what is built in -/
abbrev OC := MS → List D → (D → Prop) → Prop
def LiftsC (K : PySem.W.Frag) (oc : OC) (r : List V → Hp → VK → Prop) : Prop := ∀ F M H vs ds (q : D → Prop) (Q : VK), HeapOk K F M H → IsDs K F vs ds → oc M ds q →
  (∀ w c F' H', Gr F M H F' M H' → HeapOk K F' M H' → IsD K F' w c → q c → Q w H') → r vs H Q
def wCB (oc : OC) (w : DA) : DE := fun ρ M x k => w ρ M x fun ds M1 => oc M1 ds fun d => k d M1
section
variable {X : Cx} {G : XK} {x : Str} {p pos : Pos} {e : Expr} {es : List Expr} {w : DA} {id : String} {r : List V → Hp → VK → Prop} {oc : OC}
theorem xe_callB (hr : CallR X (.builtin id) r) (l : LiftsC X.K oc r) (hg : Gl X x) (hm : X.mg x = none) (hv : bootBuiltins x = some (.builtin id)) (ha : XA X G (e :: es) w) (hn : x ≠ "__name__" := by decide)
    (hdb : (x == ("__debug__" : Str)) = false := by decide) (he : starEach (e :: es) X.env = (false, eval e X.env) :: starEach es X.env := by rfl) (hpl : (backTo pos (starEach es X.env)).any (·.1) = false := by rfl) :
    XE X G (.Call (.Name x p) (e :: es) [] pos) (wCB oc w) :=
  PE.imp (pe_callB hr hg hm hv ha hn hdb he hpl) fun σ H Q ⟨ρ, F, M, x, k, a, q, kt⟩ => ⟨ρ, F, M, x, _, a, q, fun vs ds F1 M1 H1 g1 o1 i1 q1 =>
    l F1 M1 H1 vs ds _ _ o1 i1 q1 fun w c F' H' g o i z => kt w c F' M1 H' (g1.trans g) o i z⟩
theorem xe_callTy (hr : CallR X (.type id) r) (l : LiftsC X.K oc r) (hg : Gl X x) (hm : X.mg x = none) (hv : bootBuiltins x = some (.type id)) (ha : XA X G (e :: es) w) (hn : x ≠ "__name__" := by decide)
    (hdb : (x == ("__debug__" : Str)) = false := by decide) (he : starEach (e :: es) X.env = (false, eval e X.env) :: starEach es X.env := by rfl) (hpl : (backTo pos (starEach es X.env)).any (·.1) = false := by rfl) :
    XE X G (.Call (.Name x p) (e :: es) [] pos) (wCB oc w) :=
  PE.imp (pe_callTy hr hg hm hv ha hn hdb he hpl) fun σ H Q ⟨ρ, F, M, x, k, a, q, kt⟩ => ⟨ρ, F, M, x, _, a, q, fun vs ds F1 M1 H1 g1 o1 i1 q1 =>
    l F1 M1 H1 vs ds _ _ o1 i1 q1 fun w c F' H' g o i z => kt w c F' M1 H' (g1.trans g) o i z⟩
end
end TV

set_option Elab.async false
set_option linter.all false
set_option maxRecDepth 100000
set_option maxHeartbeats 1000000
namespace TV
open PySem PySem.Spec PyProof.Rows L2

theorem Gr.setU {F F1 : Hp} {M M1 : MS} {H H1 : Hp} {p : Addr} {o : HO} (g : Gr F M H F1 M1 H1) (hp : H p = none) : Gr F M H F1 M1 (upd H1 p o) :=
  ⟨g.ex, g.fz, g.mu, fun a u e f m => by rw [upd_ne (ne_of_none e hp)]; exact g.fr a u e f m, fun a e => by
    by_cases y : a = p
    · subst y; exact absurd hp e
    · rw [upd_ne y]; exact g.dom a e⟩

/-! ### what is walked -/
structure Walks (K : PySem.W.Frag) (J : It) (ds : List D) (stay : MS → Prop) (F0 : Hp) : Prop where
  go : ∀ i F M H, Same F0 F → HeapOk K F M H → stay M → i < ds.length → J.go i H
  stop : ∀ F M H, Same F0 F → HeapOk K F M H → stay M → J.stop ds.length H
  yld : ∀ i F M H x H', Same F0 F → HeapOk K F M H → stay M → i < ds.length → J.yld i H x H' → ∃ F' d, Gr F M H F' M H' ∧ HeapOk K F' M H' ∧ IsD K F' x d ∧ ds[i]? = some d
abbrev DI := DSt → MS → XD → (List D → (MS → Prop) → MS → Prop) → Prop
def rI (K : PySem.W.Frag) (G : XK) (w : DI) : TI := fun σ H R => ∃ ρ F M x k, At K G σ ρ F M H x ∧ w ρ M x k ∧ ∀ J ds stay F' M' H', Gr F M H F' M' H' → HeapOk K F' M' H' → Walks K J ds stay F' → k ds stay M' → R J H'
abbrev XI (X : Cx) (G : XK) (tg iter : Expr) (w : DI) : Prop := PI X tg iter (rI X.K G w)
theorem PI.imp {X : Cx} {tg e : Expr} {t t' : TI} (h : PI X tg e t) (f : ∀ σ H R, t' σ H R → t σ H R) : PI X tg e t' := ⟨fun pins s σ H R I q => h.run pins s σ H R I (f σ H R q)⟩

/-- signs as texts -/
def signs (s : Str) : List D := s.cps.toList.map fun c => .str ⟨#[c]⟩
section
variable {K : PySem.W.Frag} {F F0 : Hp} {M : MS} {H : Hp}
theorem walks_list {a : Addr} {ds : List D} {stay : MS → Prop} (h : ∀ F M H, Same F0 F → HeapOk K F M H → stay M → ∃ xs, SqL K H a xs ∧ IsDs K F xs ds) : Walks K (Itl K a) ds stay F0 where
  go := fun i F M H e o s hi => by
    obtain ⟨xs, q, r⟩ := h F M H e o s
    exact ⟨xs, xs[i]'(by rw [r.len]; exact hi), q, by simp [r.len, hi]⟩
  stop := fun F M H e o s => by
    obtain ⟨xs, q, r⟩ := h F M H e o s
    exact ⟨xs, q, by rw [r.len]; exact Nat.le_refl _⟩
  yld := fun i F M H x H' e o s hi y => by
    obtain ⟨xs, q, r⟩ := h F M H e o s
    obtain ⟨rfl, y⟩ := y
    obtain ⟨d, ed, hd⟩ := r.getV i (y xs q)
    exact ⟨F, d, .refl, o, hd, ed⟩
theorem walks_tup {a : Addr} {ds : List D} {stay : MS → Prop} (h : ∀ F M H, Same F0 F → HeapOk K F M H → stay M → ∃ xs, SqT K H a xs ∧ IsDs K F xs ds) : Walks K (Itt K a) ds stay F0 where
  go := fun i F M H e o s hi => by
    obtain ⟨xs, q, r⟩ := h F M H e o s
    exact ⟨xs, xs[i]'(by rw [r.len]; exact hi), q, by simp [r.len, hi]⟩
  stop := fun F M H e o s => by
    obtain ⟨xs, q, r⟩ := h F M H e o s
    exact ⟨xs, q, by rw [r.len]; exact Nat.le_refl _⟩
  yld := fun i F M H x H' e o s hi y => by
    obtain ⟨xs, q, r⟩ := h F M H e o s
    obtain ⟨rfl, y⟩ := y
    obtain ⟨d, ed, hd⟩ := r.getV i (y xs q)
    exact ⟨F, d, .refl, o, hd, ed⟩
theorem walks_str {z : Str} {stay : MS → Prop} : Walks K (Its z) (signs z) stay F0 where
  go := fun i F M H e o s hi => by simpa [signs, Its] using hi
  stop := fun F M H e o s => by simp [signs, Its]
  yld := fun i F M H x H' e o s hi y => by
    obtain ⟨rfl, c, ec, rfl⟩ := y
    refine ⟨F, .str ⟨#[c]⟩, .refl, o, .str, ?_⟩
    unfold signs
    rw [List.getElem?_map, Array.getElem?_toList, ec]
    rfl
theorem walks_range {lo : Int} {n : Nat} {stay : MS → Prop} : Walks K (Itr lo n) ((List.range n).map fun (i : Nat) => D.int (lo + (i : Int))) stay F0 where
  go := fun i F M H e o s hi => by simpa [Itr] using hi
  stop := fun F M H e o s => by simp [Itr]
  yld := fun i F M H x H' e o s hi y => by
    obtain ⟨rfl, rfl⟩ := y
    have hi' : i < n := by simpa using hi
    exact ⟨F, _, .refl, o, .int, by rw [List.getElem?_map, List.getElem?_range hi']; rfl⟩
end
section
variable {X : Cx} {G : XK} {tg e a b : Expr} {we : DE} {wa : DA} {p pos : Pos}
/-- over a list -/
def wiL (w : DE) : DI := fun ρ M x k => w ρ M x fun d M1 => ∃ ds, view M1 d = .lst ds ∧ k ds (fun M2 => view M2 d = .lst ds) M1
theorem xi_list (h : XE X G e we) : XI X G tg e (wiL we) :=
  PI.imp (pi_list h) fun σ H R ⟨ρ, F, M, x, k, a, q, kt⟩ => ⟨ρ, F, M, x, _, a, q, fun v d F1 M1 H1 g1 o1 i1 ⟨ds, e, q1⟩ => by
    obtain ⟨p, xs, rfl, s, r⟩ := asLst o1 i1 e
    exact ⟨p, rfl, ⟨xs, .of s⟩, kt _ _ _ F1 M1 H1 g1 o1 (walks_list fun F M H e' o' st => by
      obtain ⟨p', xs', ep, s', r'⟩ := asLst o' (i1.mono e') st
      cases ep
      exact ⟨xs', .of s', r'⟩) q1⟩⟩
def wiT (w : DE) : DI := fun ρ M x k => w ρ M x fun d M1 => ∃ ds, d = .tup ds ∧ k ds (fun _ => True) M1
theorem xi_tup (h : XE X G e we) : XI X G tg e (wiT we) :=
  PI.imp (pi_tup h) fun σ H R ⟨ρ, F, M, x, k, a, q, kt⟩ => ⟨ρ, F, M, x, _, a, q, fun v d F1 M1 H1 g1 o1 i1 ⟨ds, e, q1⟩ => by
    subst e
    obtain ⟨p, xs, rfl, s, r, _⟩ := asTup o1 i1 rfl
    exact ⟨p, rfl, ⟨xs, s⟩, kt _ _ _ F1 M1 H1 g1 o1 (walks_tup fun F M H e' o' st => by
      obtain ⟨p', xs', ep, s', r', _⟩ := asTup o' (i1.mono e') rfl
      cases ep
      exact ⟨xs', s', r'⟩) q1⟩⟩
def wiS (w : DE) : DI := fun ρ M x k => w ρ M x fun d M1 => ∃ z, d = .str z ∧ k (signs z) (fun _ => True) M1
theorem xi_str (h : XE X G e we) : XI X G tg e (wiS we) :=
  PI.imp (pi_str h) fun σ H R ⟨ρ, F, M, x, k, a, q, kt⟩ => ⟨ρ, F, M, x, _, a, q, fun v d F1 M1 H1 g1 o1 i1 ⟨z, e, q1⟩ => by
    subst e
    exact ⟨z, isD_str i1, kt _ _ _ F1 M1 H1 g1 o1 walks_str q1⟩⟩
def rng (lo : Int) (n : Nat) : List D := (List.range n).map fun (i : Nat) => D.int (lo + (i : Int))
def wiR1 (w : DA) : DI := fun ρ M x k => w ρ M x fun ds M1 => ∃ j, ds = [.int j] ∧ -(2 ^ 62) ≤ j ∧ j < 2 ^ 62 ∧ k (rng 0 j.toNat) (fun _ => True) M1
theorem isDs1 {K : PySem.W.Frag} {F : Hp} {vs : List V} {d : D} (h : IsDs K F vs [d]) : ∃ v, vs = [v] ∧ IsD K F v d := by
  cases h with
  | cons h r => cases r; exact ⟨_, rfl, h⟩
theorem isDs2 {K : PySem.W.Frag} {F : Hp} {vs : List V} {d e : D} (h : IsDs K F vs [d, e]) : ∃ v u, vs = [v, u] ∧ IsD K F v d ∧ IsD K F u e := by
  cases h with
  | cons h r =>
    obtain ⟨u, rfl, hu⟩ := isDs1 r
    exact ⟨_, _, rfl, h, hu⟩
theorem xi_range1 (hg : Gl X "range") (hm : X.mg "range" = none) (ha : XA X G [a] wa) (hs : starEach [a] X.env = [(false, eval a X.env)] := by rfl) : XI X G tg (.Call (.Name "range" p) [a] [] pos) (wiR1 wa) :=
  PI.imp (pi_range1 hg hm ha hs) fun σ H R ⟨ρ, F, M, x, k, a, q, kt⟩ => ⟨ρ, F, M, x, _, a, q, fun vs ds F1 M1 H1 g1 o1 i1 ⟨j, e, h1, h2, q1⟩ => by
    subst e
    obtain ⟨v, rfl, hv⟩ := isDs1 i1
    obtain rfl := isD_int hv
    exact ⟨j, rfl, h1, h2, kt _ _ _ F1 M1 H1 g1 o1 walks_range q1⟩⟩
def wiR2 (w : DA) : DI := fun ρ M x k => w ρ M x fun ds M1 => ∃ i j, ds = [.int i, .int j] ∧ (-(2 ^ 62) ≤ i ∧ i < 2 ^ 62 ∧ -(2 ^ 62) ≤ j ∧ j < 2 ^ 62) ∧ k (rng i (j - i).toNat) (fun _ => True) M1
theorem xi_range2 (hg : Gl X "range") (hm : X.mg "range" = none) (ha : XA X G [a, b] wa) (hs : starEach [a, b] X.env = [(false, eval a X.env), (false, eval b X.env)] := by rfl) (hs2 : starEach [b] X.env = [(false, eval b X.env)] := by rfl) : XI X G tg (.Call (.Name "range" p) [a, b] [] pos) (wiR2 wa) :=
  PI.imp (pi_range2 hg hm ha hs hs2) fun σ H R ⟨ρ, F, M, x, k, a, q, kt⟩ => ⟨ρ, F, M, x, _, a, q, fun vs ds F1 M1 H1 g1 o1 i1 ⟨i, j, e, h1, q1⟩ => by
    subst e
    obtain ⟨v, u, rfl, hv, hu⟩ := isDs2 i1
    obtain rfl := isD_int hv
    obtain rfl := isD_int hu
    exact ⟨i, j, rfl, h1, kt _ _ _ F1 M1 H1 g1 o1 walks_range q1⟩⟩

/-! ### for -/
def wFor (wi : DI) (g : DG) (tb : DS) : DS := fun E ρ M x => wi ρ M x fun ds stay M1 => ∃ Pv : Nat → DSt → MS → Prop, Pv 0 ρ M1 ∧
  (∀ i d ρ' M', ds[i]? = some d → Pv i ρ' M' → stay M' ∧ g d ρ' M' fun ρ2 M2 => tb { E with nx := Pv (i + 1), ct := Pv (i + 1), bk := E.nx } ρ2 M2 x) ∧ ∀ ρ' M', Pv ds.length ρ' M' → stay M' ∧ E.nx ρ' M'
theorem ys_for {iter : Expr} {body : List Stmt} {wi : DI} {g : DG} {tb : DS} (hp : PassesOwn (model X.prog X.w) X.A X.env X.xe) (hc : X.calm = true) (hi : XI X G tg iter wi) (hg : XG X tg g) (hb : YSs X G body tb)
    (hs : ∀ x, foldedSetIterable iter X.env x = pure x := by intro _; rfl) : YS X G (.For tg iter body [] pos) (wFor wi g tb) :=
  PS.imp (ps_for hp hc hi hg hb hs) fun D σ H ⟨ρ, F, M, x, E, a, q, et⟩ => ⟨ρ, F, M, x, _, a, q, fun J ds stay F1 M1 H1 g1 o1 wk ⟨Pv, p0, step, fin⟩ => by
    refine ⟨fun i m σ' H' => m = ds.length - i ∧ i ≤ ds.length ∧ ∃ ρ' F' M', EnvOk X.K F' σ' ρ' ∧ Gr F1 M1 H1 F' M' H' ∧ HeapOk X.K F' M' H' ∧ Pv i ρ' M', ⟨_, rfl, Nat.zero_le _, ρ, F1, M1, a.env.mono g1.ex, .refl, o1, p0⟩, ?_⟩
    rintro i m σ' H' ⟨rfl, hi, ρ', F', M', en, g', o', pv⟩
    by_cases hlt : i < ds.length
    · have sm := (step i ds[i] ρ' M' (by simp [hlt]) pv).1
      refine .inr ⟨wk.go i F' M' H' g'.ex o' sm hlt, fun σ2 H2 => ∃ ρ2 F2 M2, EnvOk X.K F2 σ2 ρ2 ∧ Gr F1 M1 H1 F2 M2 H2 ∧ HeapOk X.K F2 M2 H2 ∧ Pv (i + 1) ρ2 M2, fun σ2 H2 z => ⟨ds.length - (i + 1), by omega, rfl, hlt, z⟩, fun v H2 y => ?_⟩
      obtain ⟨F2, d, g2, o2, iv, ed⟩ := wk.yld i F' M' H' v H2 g'.ex o' sm hlt y
      have st := (step i d ρ' M' ed pv).2
      refine ⟨ρ', F2, M', d, _, en.mono g2.ex, o2, iv, st, fun σ3 ρ3 F3 M3 H3 g3 o3 en3 z => ?_⟩
      have gg := (g'.trans g2).trans g3
      refine ⟨ρ3, F3, M3, x, _, ⟨en3, o3, (a.xok.step g1).step gg⟩, z, ⟨fun σ4 ρ4 F4 M4 H4 g4 o4 en4 z4 => ⟨ρ4, F4, M4, en4, gg.trans g4, o4, z4⟩, fun v d F4 M4 H4 g4 o4 i4 z4 => et.rt v d F4 M4 H4 (g1.trans (gg.trans g4)) o4 i4 z4, fun σ4 ρ4 F4 M4 H4 g4 o4 en4 z4 => et.nx σ4 ρ4 F4 M4 H4 (g1.trans (gg.trans g4)) o4 en4 z4, fun σ4 ρ4 F4 M4 H4 g4 o4 en4 z4 => ⟨ρ4, F4, M4, en4, gg.trans g4, o4, z4⟩⟩⟩
    · obtain rfl : i = ds.length := by omega
      obtain ⟨sm, nx⟩ := fin ρ' M' pv
      exact .inl ⟨wk.stop F' M' H' g'.ex o' sm, et.nx σ' ρ' F' M' H' (g1.trans g') o' en nx⟩⟩

/-! ### comprehensions -/
def wipe0 (ρ : DSt) : List Nat → DSt
  | [] => ρ
  | v :: vs => (wipe0 ρ vs).set v none
theorem wipe_env {K : PySem.W.Frag} {F : Hp} {σ : L2.St} {ρ : DSt} (h : EnvOk K F σ ρ) : ∀ vs, EnvOk K F (wipe σ vs) (wipe0 ρ vs)
  | [] => h
  | v :: vs => (wipe_env h vs).wipe v
/-- a comprehension's target: names of its own -/
def TgOk (K : PySem.W.Frag) (g : TG) (gd : DG) (vs : List Nat) : Prop := ∀ (v : V) (d : D) (σ : L2.St) (ρ : DSt) (F : Hp) (M : MS) (H : Hp) (k : DSt → MS → Prop) (Q : L2.St → Hp → Prop), IsD K F v d → EnvOk K F (wipe σ vs) ρ → HeapOk K F M H → gd d ρ M k →
  (∀ σ2 ρ2, wipe σ2 vs = wipe σ vs → EnvOk K F σ2 ρ2 → k ρ2 M → Q σ2 H) → g v (wipe σ vs) H Q
theorem wipe_len (σ : L2.St) : ∀ vs, (wipe σ vs).length = σ.length := wipe_length σ
theorem wipe_get (σ : L2.St) (j : Nat) : ∀ vs : List Nat, (wipe σ vs)[j]? = if j ∈ vs then (if j < σ.length then some none else none) else σ[j]?
  | [] => by simp [wipe]
  | w :: vs => by
    show ((wipe σ vs).set w none)[j]? = _
    by_cases e : w = j
    · subst e
      rw [if_pos (by simp)]
      by_cases hl : w < σ.length
      · rw [List.getElem?_set_self (by rw [wipe_length]; exact hl), if_pos hl]
      · rw [if_neg hl, List.getElem?_eq_none]
        rw [List.length_set, wipe_length]; omega
    · rw [List.getElem?_set_ne e, wipe_get σ j vs]
      by_cases h : j ∈ vs
      · rw [if_pos h, if_pos (List.mem_cons_of_mem _ h)]
      · rw [if_neg h, if_neg fun z => (List.mem_cons.mp z).elim (fun y => e y.symm) h]
theorem wipe_set {σ : L2.St} {i : Nat} {v : Option V} {vs : List Nat} (h : i ∈ vs) : wipe (σ.set i v) vs = wipe σ vs :=
  List.ext_getElem? fun j => by
    rw [wipe_get, wipe_get, List.length_set]
    by_cases hj : j ∈ vs
    · rw [if_pos hj, if_pos hj]
    · rw [if_neg hj, if_neg hj, List.getElem?_set_ne (fun z => by subst z; exact hj h)]
theorem wipe_wipe {σ : L2.St} : ∀ {vs us : List Nat}, (∀ v ∈ us, v ∈ vs) → wipe (wipe σ us) vs = wipe σ vs
  | vs, [], _ => rfl
  | vs, u :: us, h => by
    show wipe ((wipe σ us).set u none) vs = _
    rw [wipe_set (h u (by simp)), wipe_wipe fun v hv => h v (by simp [hv])]
theorem tg_name {K : PySem.W.Frag} {i : Nat} {vs : List Nat} (hi : i ∈ vs) : TgOk K (gName i) (wgName i) vs := fun v d σ ρ F M H k Q iv en o q kt =>
  kt _ _ (by rw [wipe_set hi, wipe_wipe fun v h => h]) (en.set i iv) q
theorem tg_tup2 {K : PySem.W.Frag} {i j : Nat} {vs : List Nat} (hi : i ∈ vs) (hj : j ∈ vs) : TgOk K (gTup K 2 (gCons (gName i) (gCons (gName j) gNil))) (wgTup 2 (wgCons (wgName i) (wgCons (wgName j) wgNil))) vs := fun v d σ ρ F M H k Q iv en o q kt => by
  obtain ⟨ds, rfl, hl, d1, r1, rfl, d2, r2, rfl, rfl, q⟩ := q
  cases iv with
  | tup s r =>
    obtain ⟨v1, v2, rfl, i1, i2⟩ := isDs2 r
    refine ⟨_, _, rfl, sqt_mono o.sub s, rfl, v1, [v2], rfl, v2, [], rfl, rfl, kt _ _ ?_ ((en.set i i1).set j i2) q⟩
    rw [wipe_set hj, wipe_set hi, wipe_wipe fun v h => h]
theorem tg_tup3 {K : PySem.W.Frag} {i j l : Nat} {vs : List Nat} (hi : i ∈ vs) (hj : j ∈ vs) (hl' : l ∈ vs) : TgOk K (gTup K 3 (gCons (gName i) (gCons (gName j) (gCons (gName l) gNil)))) (wgTup 3 (wgCons (wgName i) (wgCons (wgName j) (wgCons (wgName l) wgNil)))) vs := fun v d σ ρ F M H k Q iv en o q kt => by
  obtain ⟨ds, rfl, hl, d1, r1, rfl, d2, r2, rfl, d3, r3, rfl, rfl, q⟩ := q
  cases iv with
  | tup s r => cases r with
    | cons i1 r =>
      obtain ⟨v2, v3, rfl, i2, i3⟩ := isDs2 r
      refine ⟨_, _, rfl, sqt_mono o.sub s, rfl, _, [v2, v3], rfl, v2, [v3], rfl, v3, [], rfl, rfl, kt _ _ ?_ (((en.set i i1).set j i2).set l i3) q⟩
      rw [wipe_set hl', wipe_set hj, wipe_set hi, wipe_wipe fun v h => h]

def wYes : DT := fun _ M _ k => k true M
theorem tYes_of {K : PySem.W.Frag} : ∀ σ H Q, rT K G wYes σ H Q → tYes σ H Q := fun σ H Q ⟨ρ, F, M, x, k, a, q, kt⟩ => kt true F M H .refl a.heap q
theorem PTs.imp {X : Cx} {e : List Expr} {t t' : TT} (h : PTs X e t) (f : ∀ σ H Q, t' σ H Q → t σ H Q) : PTs X e t' := ⟨fun pins s σ H Q I q => h.run pins s σ H Q I (f σ H Q q)⟩
theorem xts_nil : PTs X [] (rT X.K G wYes) := PTs.imp pts_nil tYes_of
theorem xts_one {c : Expr} {t : DT} (h : XT X G c t) : PTs X [c] (rT X.K G t) := pts_one h

def wLc (wi : DI) (g : DG) (tt : DT) (te : DE) (vs : List Nat) : DA := fun ρ M x k => wi ρ M x fun ds stay M1 => ds.length ≤ 100000 ∧ ∃ Pv : Nat → List D → MS → Prop, Pv 0 [] M1 ∧
  (∀ i d acc M', ds[i]? = some d → Pv i acc M' → stay M' ∧ g d (wipe0 ρ vs) M' fun ρ2 M2 => tt ρ2 M2 x fun b M3 => if b = true then te ρ2 M3 x fun y M4 => Pv (i + 1) (acc ++ [y]) M4 else Pv (i + 1) acc M3) ∧
  ∀ acc M', Pv ds.length acc M' → stay M' ∧ k acc M'
theorem lc_of {K : PySem.W.Frag} {wi : DI} {g : TG} {gd : DG} {tt : DT} {te : DE} {vs : List Nat} (tg : TgOk K g gd vs) {σ : L2.St} {H : Hp} {Q : VK} (h : rL K G (wLc wi gd tt te vs) σ H Q) : tLc (rI K G wi) g (rT K G tt) (rE K G te) vs σ H Q := by
  obtain ⟨ρ, F, M, x, k, a, q, kt⟩ := h
  refine ⟨ρ, F, M, x, _, a, q, fun J ds stay F1 M1 H1 g1 o1 wk ⟨hz, Pv, p0, step, fin⟩ Dd hD => ?_⟩
  refine ⟨fun i m H' => m = ds.length - i ∧ i ≤ ds.length ∧ ∃ F' M' acc accv, Gr F1 M1 H1 F' M' H' ∧ HeapOk K F' M' H' ∧ H' Dd = some (.lst accv) ∧ F' Dd = none ∧ M' Dd = none ∧ IsDs K F' accv acc ∧ acc.length ≤ i ∧ Pv i acc M',
    ⟨_, rfl, Nat.zero_le _, F1, M1, [], [], Gr.newU hD, o1.newU hD, upd_same, o1.noF hD, o1.noM hD, .nil, Nat.le_refl _, p0⟩, ?_⟩
  rintro i m H' ⟨rfl, hi, F', M', acc, accv, g', o', eD, fD, mD, ia, hl, pv⟩
  by_cases hlt : i < ds.length
  · have sm := (step i ds[i] acc M' (by simp [hlt]) pv).1
    refine .inr ⟨wk.go i F' M' H' g'.ex o' sm hlt, fun H2 => ∃ F2 M2 acc accv, Gr F1 M1 H1 F2 M2 H2 ∧ HeapOk K F2 M2 H2 ∧ H2 Dd = some (.lst accv) ∧ F2 Dd = none ∧ M2 Dd = none ∧ IsDs K F2 accv acc ∧ acc.length ≤ i + 1 ∧ Pv (i + 1) acc M2,
      fun H2 z => ⟨ds.length - (i + 1), by omega, rfl, hlt, z⟩, fun v H2 y => ?_⟩
    obtain ⟨F2, d, g2, o2, iv, ed⟩ := wk.yld i F' M' H' v H2 g'.ex o' sm hlt y
    have st := (step i d acc M' ed pv).2
    have eg := ((a.env.mono g1.ex).mono g'.ex).mono g2.ex
    refine tg v d σ _ F2 M' H2 _ _ iv (wipe_env eg vs) o2 st fun σ2 ρ2 ew en2 q2 => ⟨ew, ρ2, F2, M', x, _, ⟨en2, o2, ((a.xok.step g1).step g').step g2⟩, q2, fun b F3 M3 H3 g3 o3 q3 => ?_⟩
    have gg := g'.trans (g2.trans g3)
    have fD3 : F3 Dd = none := (g2.trans g3).keepF eD fD mD
    have mD3 : M3 Dd = none := (g2.trans g3).keepM eD mD
    have eD3 : H3 Dd = some (.lst accv) := (g2.trans g3).fr Dd _ eD fD mD
    cases b with
    | false =>
      dsimp only at q3 ⊢
      rw [if_neg (by decide)] at q3 ⊢
      exact ⟨F3, M3, acc, accv, gg, o3, eD3, fD3, mD3, ia.mono (g2.trans g3).ex, by omega, q3⟩
    | true =>
      dsimp only at q3 ⊢
      rw [if_pos rfl] at q3 ⊢
      refine ⟨ρ2, F3, M3, x, _, ⟨en2.mono g3.ex, o3, (((a.xok.step g1).step g').step g2).step g3⟩, q3, fun y e F4 M4 H4 g4 o4 i4 q4 => ?_⟩
      have fD4 : F4 Dd = none := g4.keepF eD3 fD3 mD3
      have mD4 : M4 Dd = none := g4.keepM eD3 mD3
      refine ⟨accv, g4.fr Dd _ eD3 fD3 mD3, ?_, F4, M4, acc ++ [e], accv ++ [y], (gg.trans g4).setU hD, o4.setU fD4 mD4 (o1.noS hD), upd_same, fD4, mD4, ((ia.mono (g2.trans g3).ex).mono g4.ex).app (.cons i4 .nil), by rw [List.length_append]; simp; omega, q4⟩
      rw [ia.len]
      exact Nat.lt_of_lt_of_le (show acc.length < 100001 by omega) (by decide)
  · obtain rfl : i = ds.length := by omega
    obtain ⟨sm, nx⟩ := fin acc M' pv
    exact .inl ⟨wk.stop F' M' H' g'.ex o' sm, kt Dd accv acc F' M' H' (g1.trans g') o' (fresh0 g1 hD) eD fD mD ia nx⟩
/-- [e for x in xs if t] -/
theorem xl_lc {elt tg iter : Expr} {ifs : List Expr} {scope : Scope} {own : List (Str × Nat)} {wi : DI} {g : TG} {gd : DG} {tt : DT} {te : DE} (hc : X.calm = true) (hN : X.N.Nodup) (hi : XI X G tg iter wi) (ok : BlkOk X.N X.env.scope scope own) (ht : TgOk X.K g gd (own.map (·.2)))
    (hg : ∀ (s : Shared) (H : Hp) (C : Addr) (cl : List (Str × Addr)) (fp : List Addr), PG (X.blk s H scope (compEnvC scope cl C X.env) fp) tg g)
    (htt : ∀ (s : Shared) (H : Hp) (C : Addr) (cl : List (Str × Addr)) (fp : List Addr), PTs (X.blk s H scope (compEnvC scope cl C X.env) fp) ifs (rT X.K G tt))
    (he : ∀ (s : Shared) (H : Hp) (C : Addr) (cl : List (Str × Addr)) (fp : List Addr), PE (X.blk s H scope (compEnvC scope cl C X.env) fp) elt (rE X.K G te))
    (hs : ∀ x, foldedSetIterable iter X.env x = pure x := by intro _; rfl) : XL X G (.ListComp elt [⟨tg, iter, ifs, 0⟩] scope pos) (wLc wi gd tt te (own.map (·.2))) :=
  PE.imp (pe_lc hc hN hi ok hg htt he hs) fun σ H Q h => lc_of ht h
/-- name = [e for x in xs if t] -/
def wSetLc (i : Nat) (w : DE) : DS := fun E ρ M x => w ρ M x fun d M1 => E.nx (ρ.set i (some d)) M1
end
end TV

set_option Elab.async false
set_option linter.all false
set_option maxRecDepth 100000
set_option maxHeartbeats 1000000
namespace TV
open PySem PySem.Spec PyProof.Rows L2

section
variable {X : Cx}
/-! ### what operators give, over trees -/
def addD : OD := fun M d e q => match view M d, view M e with
  | .int i, .int j => q (.int (i + j))
  | .str a, .str b => a.length + b.length ≤ 100000 ∧ q (.str (a ++ b))
  | .lst xs, .lst ys => xs.length + ys.length ≤ 100000 ∧ q (.lst (xs ++ ys))
  | .tup xs, .tup ys => xs.length + ys.length ≤ 100000 ∧ q (.tup (xs ++ ys))
  | _, _ => False
def rAddD (K : PySem.W.Frag) : R2 := fun x y H Q => (rI0 (fun i j => .int (i + j)) x y H Q ∨ (∃ i j, x = .str i ∧ y = .str j ∧ i.length + j.length ≤ sizeLine ∧ Q (.str (i ++ j)) H)) ∨ (rCat x y H Q ∨ rCatA K x y H Q)
theorem op_addD : OpR X (binaryOp .Add) (rAddD X.K) := (op_add.or op_add_str).or (op_cat.or op_catA)
theorem IsDs.nil_iff {K : PySem.W.Frag} {F : Hp} {xs : List V} {ds : List D} (h : IsDs K F xs ds) : xs = [] ↔ ds = [] := by cases h <;> simp
theorem l_addD : Lifts X.K addD (rAddD X.K) := fun F M H v u d e q Q o i1 i2 h kt => by
  unfold addD at h
  split at h
  · rename_i i j e1 e2
    obtain ⟨rfl, _⟩ := asInt o i1 e1
    obtain ⟨rfl, _⟩ := asInt o i2 e2
    exact .inl (.inl ⟨i, j, rfl, rfl, kt _ _ F H .refl o .int h⟩)
  · rename_i i j e1 e2
    obtain ⟨rfl, _⟩ := asStr o i1 e1
    obtain ⟨rfl, _⟩ := asStr o i2 e2
    exact .inl (.inr ⟨i, j, rfl, rfl, sz5 h.1, kt _ _ F H .refl o .str h.2⟩)
  · rename_i xs ys e1 e2
    obtain ⟨p, vs, rfl, hp, r1⟩ := asLst o i1 e1
    obtain ⟨p2, us, rfl, hp2, r2⟩ := asLst o i2 e2
    exact .inr (.inl ⟨p, p2, vs, us, rfl, rfl, hp, hp2, by rw [r1.len, r2.len]; exact sz5 h.1, fun z hz => kt _ _ (upd F z (.lst (vs ++ us))) _ (.frz (o.noF hz) hz) (o.frz hz) (.lst upd_same ((r1.app r2).mono (Same.upd (o.noF hz)))) h.2⟩)
  · rename_i xs ys e1 e2
    obtain ⟨p, vs, rfl, hp, r1, ed⟩ := asTup o i1 e1
    obtain ⟨p2, us, rfl, hp2, r2, ee⟩ := asTup o i2 e2
    subst ed ee
    refine .inr (.inr ⟨p, p2, vs, us, rfl, rfl, hp, hp2, by rw [r1.len, r2.len]; exact sz5 h.1, fun z => ?_, fun _ z => ?_, fun _ _ z hz => ?_⟩)
    · have := r1.nil_iff.mp z
      subst this
      exact kt _ _ F H .refl o i2 h.2
    · have := r2.nil_iff.mp z
      subst this
      rw [List.append_nil] at h
      exact kt _ _ F H .refl o i1 h.2
    · exact kt _ _ (upd F z (.tup (vs ++ us))) _ (.frz (o.noF hz) hz) (o.frz hz) (.tup (.of upd_same) ((r1.app r2).mono (Same.upd (o.noF hz)))) h.2
  · exact h.elim
def subD : OD := fun M d e q => ∃ i j, d = .int i ∧ e = .int j ∧ q (.int (i - j))
theorem l_subD : Lifts X.K subD (rI0 fun i j => .int (i - j)) := fun F M H v u d e q Q o i1 i2 ⟨i, j, e1, e2, h⟩ kt => by
  subst e1 e2
  exact ⟨i, j, isD_int i1, isD_int i2, kt _ _ F H .refl o .int h⟩
/-- ints in, under C -/
def intD (C : Int → Int → Prop) (g : Int → Int → Int) : OD := fun M d e q => ∃ i j, d = .int i ∧ e = .int j ∧ C i j ∧ q (.int (g i j))
theorem l_intD {C : Int → Int → Prop} {g : Int → Int → Int} : Lifts X.K (intD C g) (L2.rI C fun i j => .int (g i j)) := fun F M H v u d e q Q o i1 i2 ⟨i, j, e1, e2, hc, h⟩ kt => by
  subst e1 e2
  exact ⟨i, j, isD_int i1, isD_int i2, hc, kt _ _ F H .refl o .int h⟩
def cmpD (g : Int → Int → Bool) : OD := fun M d e q => ∃ i j, d = .int i ∧ e = .int j ∧ q (.bl (g i j))
theorem l_cmpD {g : Int → Int → Bool} : Lifts X.K (cmpD g) (rI0 fun i j => .bl (g i j)) := fun F M H v u d e q Q o i1 i2 ⟨i, j, e1, e2, h⟩ kt => by
  subst e1 e2
  exact ⟨i, j, isD_int i1, isD_int i2, kt _ _ F H .refl o .bl h⟩
/-- one sign in a text -/
def inSD : OD := fun M d e q => ∃ c z, d = .str ⟨#[c]⟩ ∧ e = .str z ∧ q (.bl (decide (c ∈ z.cps.toList)))
theorem l_inSD : Lifts X.K inSD (fun x y H Q => ∃ (c : Nat) (z : Str), x = .str ⟨#[c]⟩ ∧ y = .str z ∧ Q (.bl (decide (c ∈ z.cps.toList))) H) := fun F M H v u d e q Q o i1 i2 ⟨c, z, e1, e2, h⟩ kt => by
  subst e1 e2
  exact ⟨c, z, isD_str i1, isD_str i2, kt _ _ F H .refl o .bl h⟩
def ninSD : OD := fun M d e q => ∃ c z, d = .str ⟨#[c]⟩ ∧ e = .str z ∧ q (.bl (!decide (c ∈ z.cps.toList)))

/-! ### data compared -/
mutual
/-- data without dicts and objects, by depth -/
def toPy : D → Option PyData
  | .non => some .none
  | .bl b => some (.bool b)
  | .int i => some (.int i)
  | .str s => some (.str s)
  | .tup ds => (toPys ds).map .tuple
  | .lst ds => (toPys ds).map .list
  | .fro ds => (toPys ds).map .list
  | .dct _ => none
  | .ins _ _ => none
  | .obj _ => none
  | .ty _ => none
def toPys : List D → Option (List PyData)
  | [] => some []
  | d :: ds => match toPy d, toPys ds with
    | some p, some ps => some (p :: ps)
    | _, _ => none
end
mutual
theorem dp_of {K : PySem.W.Frag} {F H : Hp} (s : Same F H) : ∀ {v d p}, IsD K F v d → toPy d = some p → Dp K H v p
  | _, _, _, .non, e => by cases e; exact .non
  | _, _, _, .bl, e => by cases e; exact .bl _
  | _, _, _, .int, e => by cases e; exact .int _
  | _, _, _, .str, e => by cases e; exact .str _
  | _, .tup ds, _, .tup q r, e => by
    unfold toPy at e
    cases h : toPys ds with
    | none => rw [h] at e; cases e
    | some ps => rw [h] at e; cases e; exact .tup (sqt_mono s q) (dps_of s r h)
  | _, .lst ds, _, .lst q r, e => by
    unfold toPy at e
    cases h : toPys ds with
    | none => rw [h] at e; cases e
    | some ps => rw [h] at e; cases e; exact .lst (.of (s _ _ q)) (dps_of s r h)
  | _, .fro ds, _, .fro q r, e => by
    unfold toPy at e
    cases h : toPys ds with
    | none => rw [h] at e; cases e
    | some ps => rw [h] at e; cases e; exact .lst (sql_mono s q) (dps_of s r h)
  | _, _, _, .dct _ _, e => by unfold toPy at e; cases e
  | _, _, _, .ins _ _, e => by unfold toPy at e; cases e
  | _, _, _, .obj, e => by unfold toPy at e; cases e
  | _, _, _, .ty, e => by unfold toPy at e; cases e
theorem dps_of {K : PySem.W.Frag} {F H : Hp} (s : Same F H) : ∀ {v d p}, IsDs K F v d → toPys d = some p → DpAll K H v p
  | _, _, _, .nil, e => by unfold toPys at e; cases e; exact .nil
  | _, d :: ds, _, .cons h r, e => by
    unfold toPys at e
    cases h1 : toPy d with
    | none => rw [h1] at e; simp at e
    | some p =>
      cases h2 : toPys ds with
      | none => rw [h1, h2] at e; simp at e
      | some ps => rw [h1, h2] at e; cases e; exact .cons (dp_of s h h1) (dps_of s r h2)
end
theorem dp_view {K : PySem.W.Frag} {F H : Hp} {M : MS} {v : V} {d : D} {p : PyData} (o : HeapOk K F M H) (i : IsD K F v d) (e : toPy (view M d) = some p) : Dp K H v p := by
  rcases seen o i with ⟨a, rfl, rfl, ⟨ds, xs, _, e', hh, r⟩ | ⟨es, kvs, _, e', _⟩ | ⟨C, fs, dx, gs, _, e', _⟩ | ⟨_, e'⟩⟩ | ⟨_, e'⟩
  · rw [e'] at e
    unfold toPy at e
    cases h : toPys ds with
    | none => rw [h] at e; cases e
    | some ps => rw [h] at e; cases e; exact .lst (.of hh) (dps_of o.sub r h)
  · rw [e'] at e; unfold toPy at e; cases e
  · rw [e'] at e; unfold toPy at e; cases e
  · rw [e'] at e; unfold toPy at e; cases e
  · rw [e'] at e
    exact dp_of o.sub i e
def eqD : OD := fun M d e q => ∃ p r, toPy (view M d) = some p ∧ toPy (view M e) = some r ∧ SeqAt.shaped p = true ∧ SeqAt.shaped r = true ∧ q (.bl (PyData.eqv p r))
def neD : OD := fun M d e q => ∃ p r, toPy (view M d) = some p ∧ toPy (view M e) = some r ∧ SeqAt.shaped p = true ∧ SeqAt.shaped r = true ∧ q (.bl (!PyData.eqv p r))
theorem l_eqD : Lifts X.K eqD (rEqD X.K) := fun F M H v u d e q Q o i1 i2 ⟨p, r, e1, e2, s1, s2, h⟩ kt => ⟨p, r, dp_view o i1 e1, dp_view o i2 e2, s1, s2, kt _ _ F H .refl o .bl h⟩
theorem l_neD : Lifts X.K neD (rNeD X.K) := fun F M H v u d e q Q o i1 i2 ⟨p, r, e1, e2, s1, s2, h⟩ kt => ⟨p, r, dp_view o i1 e1, dp_view o i2 e2, s1, s2, kt _ _ F H .refl o .bl h⟩

/-! ### in a list or tuple of flat things -/
def flatD : D → Bool
  | .non | .bl _ | .int _ | .str _ => true
  | _ => false
def eqF : D → D → Bool
  | .non, .non => true
  | .bl a, .bl b => a == b
  | .bl a, .int b => (if a then 1 else 0) == b
  | .int a, .bl b => a == (if b then 1 else 0)
  | .int a, .int b => a == b
  | .str a, .str b => a == b
  | _, _ => false
def memD (d : D) (ds : List D) : Bool := ds.any fun e => eqF e d
def toV : D → V
  | .non => .non | .bl b => .bl b | .int i => .int i | .str s => .str s | _ => .non
theorem flat_v {K : PySem.W.Frag} {F : Hp} {v : V} {d : D} (h : IsD K F v d) (f : flatD d = true) : v = toV d ∧ flatV v = true := by
  cases h with
  | non => exact ⟨rfl, rfl⟩
  | bl => exact ⟨rfl, rfl⟩
  | int => exact ⟨rfl, rfl⟩
  | str => exact ⟨rfl, rfl⟩
  | _ => cases f
theorem eqF_v {d e : D} (f : flatD d = true) (g : flatD e = true) : eqV (toV d) (toV e) = eqF d e := by
  cases d <;> first | (cases f; done) | (cases e <;> first | (cases g; done) | rfl)
theorem mem_v {K : PySem.W.Frag} {F : Hp} {v : V} {d : D} (h : IsD K F v d) (f : flatD d = true) : ∀ {xs ds}, IsDs K F xs ds → ds.all flatD = true → inV v xs = memD d ds ∧ xs.all flatV = true
  | _, _, .nil, _ => ⟨rfl, rfl⟩
  | _, _, .cons i r, a => by
    rw [List.all_cons, Bool.and_eq_true] at a
    obtain ⟨e1, f1⟩ := flat_v i a.1
    obtain ⟨e2, f2⟩ := flat_v h f
    obtain ⟨m1, m2⟩ := mem_v h f r a.2
    unfold inV memD at *
    rw [List.any_cons, List.any_cons, List.all_cons, m2, f1, m1, e1, e2, eqF_v a.1 f]
    exact ⟨rfl, rfl⟩
def inD (neg : Bool) : OD := fun M d e q => flatD d = true ∧ ((∃ ds, view M e = .lst ds ∧ ds.all flatD = true ∧ q (.bl (if neg then !memD d ds else memD d ds))) ∨ ∃ ds, e = .tup ds ∧ ds.all flatD = true ∧ q (.bl (if neg then !memD d ds else memD d ds)))
theorem l_inD {neg : Bool} : Lifts X.K (inD neg) (rIn X.K neg) := fun F M H v u d e q Q o i1 i2 ⟨f, h⟩ kt => by
  rcases h with ⟨ds, e2, a, h⟩ | ⟨ds, e2, a, h⟩
  · obtain ⟨p, xs, rfl, hp, r⟩ := asLst o i2 e2
    obtain ⟨m1, m2⟩ := mem_v i1 f r a
    exact ⟨p, xs, rfl, .inl (.of hp), (flat_v i1 f).2, m2, by rw [m1]; exact kt _ _ F H .refl o .bl h⟩
  · subst e2
    obtain ⟨p, xs, rfl, hp, r, _⟩ := asTup o i2 rfl
    obtain ⟨m1, m2⟩ := mem_v i1 f r a
    exact ⟨p, xs, rfl, .inr hp, (flat_v i1 f).2, m2, by rw [m1]; exact kt _ _ F H .refl o .bl h⟩

/-! ### subscripts -/
def ixD : OD := fun M d e q => ∃ i, e = .int i ∧ match view M d with
  | .lst ds => ∃ c, atI ds i = some c ∧ q c
  | .tup ds => ∃ c, atI ds i = some c ∧ q c
  | .str s => s.length ≤ 100000 ∧ ∃ c, atI s.cps.toList i = some c ∧ q (.str ⟨#[c]⟩)
  | _ => False
theorem atI_v {K : PySem.W.Frag} {F : Hp} {xs : List V} {ds : List D} {i : Int} {c : D} (r : IsDs K F xs ds) (h : atI ds i = some c) : ∃ v, atI xs i = some v ∧ IsD K F v c := by
  unfold atI at *
  rw [← r.len] at h
  cases e : ixN xs.length i with
  | none => rw [e] at h; cases h
  | some j =>
    rw [e] at h
    exact r.get j h
theorem l_ixD : Lifts X.K ixD (rIx X.K) := fun F M H v u d e q Q o i1 i2 ⟨i, ei, h⟩ kt => by
  subst ei
  obtain rfl := isD_int i2
  split at h
  · rename_i ds e1
    obtain ⟨p, xs, rfl, hp, r⟩ := asLst o i1 e1
    obtain ⟨c, ec, h⟩ := h
    obtain ⟨w, ew, iw⟩ := atI_v r ec
    exact .inl ⟨p, xs, i, w, rfl, rfl, .of hp, ew, kt _ _ F H .refl o iw h⟩
  · rename_i ds e1
    obtain ⟨p, xs, rfl, hp, r, _⟩ := asTup o i1 e1
    obtain ⟨c, ec, h⟩ := h
    obtain ⟨w, ew, iw⟩ := atI_v r ec
    exact .inr (.inl ⟨p, xs, i, w, rfl, rfl, hp, ew, kt _ _ F H .refl o iw h⟩)
  · rename_i s e1
    obtain ⟨rfl, _⟩ := asStr o i1 e1
    obtain ⟨hz, c, ec, h⟩ := h
    exact .inr (.inr ⟨s, i, c, rfl, rfl, sz5 hz, ec, kt _ _ F H .refl o .str h⟩)
  · exact h.elim
theorem xe_ix {G : XK} {a b : Expr} {wa wb : DE} {pos : Pos} (ha : XE X G a wa) (hb : XE X G b wb) (hs : PlainIx b) : XE X G (.Subscript a b pos) (wOp ixD wa wb) :=
  PE.imp (pe_ix ix_seq ha hb hs) fun σ H Q h => tOp_of l_ixD h

/-! ### slices -/
abbrev DO := DSt → MS → XD → (Option Int → MS → Prop) → Prop
def rO (K : PySem.W.Frag) (G : XK) (w : DO) : TO := fun σ H Q => ∃ ρ F M x k, At K G σ ρ F M H x ∧ w ρ M x k ∧ ∀ i F' M' H', Gr F M H F' M' H' → HeapOk K F' M' H' → k i M' → Q i H'
def wNo : DO := fun _ M _ k => k none M
def wPart (w : DE) : DO := fun ρ M x k => w ρ M x fun d M1 => ∃ i, d = .int i ∧ k (some i) M1
theorem PO.imp {e : Option Expr} {t t' : TO} (h : PO X e t) (f : ∀ σ H Q, t' σ H Q → t σ H Q) : PO X e t' := ⟨fun pins s σ H Q I q => h.run pins s σ H Q I (f σ H Q q)⟩
theorem xo_none {G : XK} : PO X none (rO X.K G wNo) := PO.imp po_none fun σ H Q ⟨ρ, F, M, x, k, a, q, kt⟩ => kt none F M H .refl a.heap q
theorem xo_some {G : XK} {e : Expr} {w : DE} (h : XE X G e w) : PO X (some e) (rO X.K G (wPart w)) := PO.imp (po_some h) fun σ H Q ⟨ρ, F, M, x, k, a, q, kt⟩ =>
  ⟨ρ, F, M, x, _, a, q, fun v d F1 M1 H1 g1 o1 i1 ⟨i, e, q1⟩ => by subst e; exact ⟨i, isD_int i1, kt _ F1 M1 H1 g1 o1 q1⟩⟩
def cutD (ds : List D) (lo hi : Option Int) : List D := (ds.drop (HT.sIx ds.length 0 lo)).take (HT.sIx ds.length ds.length hi - HT.sIx ds.length 0 lo)
theorem cut_v {K : PySem.W.Frag} {F : Hp} {xs : List V} {ds : List D} (r : IsDs K F xs ds) (lo hi : Option Int) : IsDs K F (cutV xs lo hi) (cutD ds lo hi) := by
  unfold cutV cutD
  rw [r.len]
  exact (r.drop _).take _
/-- a slice of a list: a new list -/
def wSlL (w : DE) (l u : DO) : DA := fun ρ M x k => w ρ M x fun d M1 => l ρ M1 x fun lo M2 => u ρ M2 x fun hi M3 => ∃ ds, (view M3 d = .lst ds ∨ d = .fro ds) ∧ k (cutD ds lo hi) M3
theorem xl_slice {G : XK} {e : Expr} {lo hi : Option Expr} {w : DE} {l u : DO} {p2 pos : Pos} (he : XE X G e w) (hl : PO X lo (rO X.K G l)) (hu : PO X hi (rO X.K G u)) : XL X G (.Subscript e (.Slice lo hi none p2) pos) (wSlL w l u) :=
  PE.imp (pe_slice sl_list he hl hu) fun σ H Q ⟨ρ, F, M, x, k, a, q, kt⟩ => ⟨ρ, F, M, x, _, a, q, fun v d F1 M1 H1 g1 o1 i1 q1 =>
    ⟨ρ, F1, M1, x, _, a.step g1 o1, q1, fun lo F2 M2 H2 g2 o2 q2 => ⟨ρ, F2, M2, x, _, a.step (g1.trans g2) o2, q2, fun hi F3 M3 H3 g3 o3 ⟨ds, e, q3⟩ => by
      have i3 := i1.mono (g2.trans g3).ex
      have gg := (g1.trans g2).trans g3
      have fin : ∀ p xs, SqL X.K H3 p xs → IsDs X.K F3 xs ds → v = .ref p → rSlL X.K v lo hi H3 Q := fun p xs hp r ev =>
        ⟨p, xs, ev, hp, fun z hz => kt z _ _ F3 M3 _ (gg.trans (.newU hz)) (o3.newU hz) (fresh0 gg hz) upd_same (o3.noF hz) (o3.noM hz) (cut_v r lo hi) q3⟩
      rcases e with e | e
      · obtain ⟨p, xs, ev, hp, r⟩ := asLst o3 i3 e
        exact fin p xs (.of hp) r ev
      · subst e
        cases i3 with
        | fro s r => exact fin _ _ (sql_mono o3.sub s) r rfl⟩⟩⟩
/-- .. of a tuple, of a text -/
def wSlT (w : DE) (l u : DO) : DE := fun ρ M x k => w ρ M x fun d M1 => l ρ M1 x fun lo M2 => u ρ M2 x fun hi M3 => ∃ ds, d = .tup ds ∧ k (.tup (cutD ds lo hi)) M3
theorem cut_whole {ds : List D} {lo hi : Option Int} (h : HT.sIx ds.length 0 lo = 0 ∧ HT.sIx ds.length ds.length hi = ds.length) : cutD ds lo hi = ds := by
  unfold cutD
  rw [h.1, h.2]
  simp
theorem xe_sliceT {G : XK} {e : Expr} {lo hi : Option Expr} {w : DE} {l u : DO} {p2 pos : Pos} (he : XE X G e w) (hl : PO X lo (rO X.K G l)) (hu : PO X hi (rO X.K G u)) : XE X G (.Subscript e (.Slice lo hi none p2) pos) (wSlT w l u) :=
  PE.imp (pe_slice sl_tupA he hl hu) fun σ H Q ⟨ρ, F, M, x, k, a, q, kt⟩ => ⟨ρ, F, M, x, _, a, q, fun v d F1 M1 H1 g1 o1 i1 q1 =>
    ⟨ρ, F1, M1, x, _, a.step g1 o1, q1, fun lo F2 M2 H2 g2 o2 q2 => ⟨ρ, F2, M2, x, _, a.step (g1.trans g2) o2, q2, fun hi F3 M3 H3 g3 o3 ⟨ds, e, q3⟩ => by
      subst e
      have i3 := i1.mono (g2.trans g3).ex
      obtain ⟨p, xs, rfl, hp, r, _⟩ := asTup o3 i3 rfl
      refine ⟨p, xs, rfl, hp, fun z => ?_, fun _ z hz => ?_⟩
      · rw [r.len] at z
        rw [cut_whole z] at q3
        exact kt _ _ F3 M3 H3 ((g1.trans g2).trans g3) o3 i3 q3
      · exact kt _ _ (upd F3 z (.tup (cutV xs lo hi))) M3 _ (((g1.trans g2).trans g3).trans (.frz (o3.noF hz) hz)) (o3.frz hz) (.tup (.of upd_same) ((cut_v r lo hi).mono (Same.upd (o3.noF hz)))) q3⟩⟩⟩
def wSlS (w : DE) (l u : DO) : DE := fun ρ M x k => w ρ M x fun d M1 => l ρ M1 x fun lo M2 => u ρ M2 x fun hi M3 => ∃ z, d = .str z ∧ z.length ≤ 100000 ∧ k (.str (cutS z lo hi)) M3
theorem xe_sliceS {G : XK} {e : Expr} {lo hi : Option Expr} {w : DE} {l u : DO} {p2 pos : Pos} (he : XE X G e w) (hl : PO X lo (rO X.K G l)) (hu : PO X hi (rO X.K G u)) : XE X G (.Subscript e (.Slice lo hi none p2) pos) (wSlS w l u) :=
  PE.imp (pe_slice sl_str he hl hu) fun σ H Q ⟨ρ, F, M, x, k, a, q, kt⟩ => ⟨ρ, F, M, x, _, a, q, fun v d F1 M1 H1 g1 o1 i1 q1 =>
    ⟨ρ, F1, M1, x, _, a.step g1 o1, q1, fun lo F2 M2 H2 g2 o2 q2 => ⟨ρ, F2, M2, x, _, a.step (g1.trans g2) o2, q2, fun hi F3 M3 H3 g3 o3 ⟨z, e, hz, q3⟩ => by
      subst e
      obtain rfl := isD_str i1
      exact ⟨z, rfl, sz5 hz, kt _ _ F3 M3 H3 ((g1.trans g2).trans g3) o3 .str q3⟩⟩⟩⟩

/-! ### built-ins -/
def lenC : OC := fun M ds q => ∃ d, ds = [d] ∧ match view M d with
  | .lst es => q (.int es.length)
  | .fro es => q (.int es.length)
  | .tup es => q (.int es.length)
  | .str s => s.length ≤ 100000 ∧ q (.int s.length)
  | _ => False
def rLenD (K : PySem.W.Frag) : List V → Hp → VK → Prop := fun xs H Q => (∃ p ys, xs = [.ref p] ∧ (SqL K H p ys ∨ SqT K H p ys) ∧ Q (.int ys.length) H) ∨ ∃ z, xs = [.str z] ∧ z.length ≤ sizeLine ∧ Q (.int z.length) H
theorem CallR.or {f : Value} {r r' : List V → Hp → VK → Prop} (h : CallR X f r) (h' : CallR X f r') : CallR X f (fun xs H Q => r xs H Q ∨ r' xs H Q) := fun pins s σ H xs us Q I rv q => by
  rcases q with q | q
  · exact h pins s σ H xs us Q I rv q
  · exact h' pins s σ H xs us Q I rv q
theorem call_lenD' : CallR X (.builtin "len") (rLenD X.K) := CallR.or call_len_seq call_len_str
theorem l_lenC : LiftsC X.K lenC (rLenD X.K) := fun F M H vs ds q Q o i ⟨d, ed, h⟩ kt => by
  subst ed
  obtain ⟨v, rfl, iv⟩ := isDs1 i
  split at h
  · rename_i es e
    obtain ⟨p, xs, rfl, hp, r⟩ := asLst o iv e
    exact .inl ⟨p, xs, rfl, .inl (.of hp), by rw [r.len]; exact kt _ _ F H .refl o .int h⟩
  · rename_i es e
    rcases seen o iv with ⟨p, rfl, rfl, ⟨ds', xs, _, e', hh, q⟩ | ⟨es, kvs, _, e', hh, q⟩ | ⟨C', fs', dx, gs, _, e', hh, q⟩ | ⟨_, e'⟩⟩ | ⟨n, e'⟩
    · rw [e] at e'; cases e'
    · rw [e] at e'; cases e'
    · rw [e] at e'; cases e'
    · rw [e] at e'; cases e'
    · rw [e] at e'
      subst e'
      cases iv with
      | fro s r => exact .inl ⟨_, _, rfl, .inl (sql_mono o.sub s), by rw [r.len]; exact kt _ _ F H .refl o .int h⟩
  · rename_i es e
    obtain ⟨p, xs, rfl, hp, r, _⟩ := asTup o iv e
    exact .inl ⟨p, xs, rfl, .inr hp, by rw [r.len]; exact kt _ _ F H .refl o .int h⟩
  · rename_i s e
    obtain ⟨rfl, _⟩ := asStr o iv e
    exact .inr ⟨s, rfl, sz5 h.1, kt _ _ F H .refl o .int h.2⟩
  · exact h.elim
/-- the built-in type of a thing -/
def tyD : D → Option String
  | .non => some "NoneType"
  | .bl _ => some "bool"
  | .int _ => some "int"
  | .str _ => some "str"
  | .tup _ => some "tuple"
  | .lst _ => some "list"
  | .dct _ => some "dict"
  | _ => none
theorem ty_of {K : PySem.W.Frag} {F H : Hp} {M : MS} {v : V} {d : D} {t : String} (o : HeapOk K F M H) (i : IsD K F v d) (e : tyD (view M d) = some t) : TyX K H v (.type t) := by
  rcases seen o i with ⟨p, rfl, rfl, ⟨ds', xs, _, e', hh, q⟩ | ⟨es, kvs, _, e', hh, q⟩ | ⟨C', fs', dx, gs, _, e', hh, q⟩ | ⟨_, e'⟩⟩ | ⟨n, e'⟩
  · rw [e'] at e; cases e; exact .base (.lst hh)
  · rw [e'] at e; cases e; exact .base (.dK hh)
  · rw [e'] at e; cases e
  · rw [e'] at e; cases e
  · rw [e'] at e
    cases i with
    | non => cases e; exact .base .non
    | bl => cases e; exact .base (.bl _)
    | int => cases e; exact .base (.int _)
    | str => cases e; exact .base (.str _)
    | tup s r =>
      cases e
      rcases sqt_mono o.sub s with (s | ⟨ob, s⟩) | ⟨ob, its, n, s, c, _⟩
      · exact .base (.tup s)
      · exact .fTuple s
      · exact .kTuple s c
    | lst s r => cases e; exact .base (.lst (o.sub _ _ s))
    | dct s r => cases e; exact .base (.dK (o.sub _ _ s))
    | _ => cases e
def isiC : OC := fun M ds q => ∃ d n t b, ds = [d, .ty n] ∧ tyD (view M d) = some t ∧ kitB t n = some b ∧ q (.bl b)
theorem l_isiC : LiftsC X.K isiC (rIsi X.K) := fun F M H vs ds q Q o i ⟨d, n, t, b, ed, et, eb, h⟩ kt => by
  subst ed
  obtain ⟨v, u, rfl, iv, iu⟩ := isDs2 i
  cases iu
  exact ⟨v, .ty n, .type t, .type n, b, rfl, .ty n, ty_of o iv et, kit_ty eb, kt _ _ F H .refl o .bl h⟩
def allC (f : List Bool → Bool) : OC := fun M ds q => ∃ d bs, ds = [d] ∧ view M d = .lst (bs.map D.bl) ∧ q (.bl (f bs))
theorem bools_v {K : PySem.W.Frag} {F : Hp} : ∀ {xs : List V} {bs : List Bool}, IsDs K F xs (bs.map D.bl) → xs = bs.map V.bl
  | _, [], .nil => rfl
  | _, b :: bs, .cons i r => by rw [isD_bl i, bools_v r]; rfl
theorem l_allC : LiftsC X.K (allC fun bs => bs.all id) (rAll X.K) := fun F M H vs ds q Q o i ⟨d, bs, ed, ev, h⟩ kt => by
  subst ed
  obtain ⟨v, rfl, iv⟩ := isDs1 i
  obtain ⟨p, xs, rfl, hp, r⟩ := asLst o iv ev
  obtain rfl := bools_v r
  exact ⟨p, bs, rfl, .of hp, kt _ _ F H .refl o .bl h⟩
theorem l_anyC : LiftsC X.K (allC fun bs => bs.any id) (rAny X.K) := fun F M H vs ds q Q o i ⟨d, bs, ed, ev, h⟩ kt => by
  subst ed
  obtain ⟨v, rfl, iv⟩ := isDs1 i
  obtain ⟨p, xs, rfl, hp, r⟩ := asLst o iv ev
  obtain rfl := bools_v r
  exact ⟨p, bs, rfl, .of hp, kt _ _ F H .refl o .bl h⟩
def divmodC : OC := fun M ds q => ∃ i j, ds = [.int i, .int j] ∧ CDiv i j ∧ q (.tup [.int (i / j), .int (i % j)])
theorem l_divmodC : LiftsC X.K divmodC (fun xs H Q => ∃ i j, xs = [.int i, .int j] ∧ CDiv i j ∧ ∀ p, H p = none → Q (.ref p) (upd H p (.tup [.int (i / j), .int (i % j)]))) := fun F M H vs ds q Q o i ⟨a, b, ed, hc, h⟩ kt => by
  subst ed
  obtain ⟨v, u, rfl, iv, iu⟩ := isDs2 i
  obtain rfl := isD_int iv
  obtain rfl := isD_int iu
  exact ⟨a, b, rfl, hc, fun z hz => kt _ _ (upd F z _) _ (.frz (o.noF hz) hz) (o.frz hz) (.tup (.of upd_same) (.cons .int (.cons .int .nil))) h⟩
end

/-! ### methods of what is built in -/
abbrev OM := MS → D → List D → (D → Prop) → Prop
def LiftsM (K : PySem.W.Frag) (T : String) (om : OM) (r : V → List V → Hp → VK → Prop) : Prop := ∀ F M H v d vs ds (q : D → Prop) (Q : VK), HeapOk K F M H → IsD K F v d → IsDs K F vs ds → om M d ds q →
  (∀ w c F' H', Gr F M H F' M H' → HeapOk K F' M H' → IsD K F' w c → q c → Q w H') → r v vs H Q
/-- the receiver's type is known before the arguments -/
def wBM (T : String) (om : OM) (w : DE) (ws : DA) : DE := fun ρ M x k => w ρ M x fun d M1 => tyD (view M1 d) = some T ∧ ws ρ M1 x fun ds M2 => om M2 d ds fun c => k c M2
section
variable {X : Cx} {G : XK} {o e : Expr} {es : List Expr} {w : DE} {ws : DA} {name : Str} {apos cpos : Pos} {T id : String} {r : V → List V → Hp → VK → Prop} {om : OM}
theorem tyV_of {K : PySem.W.Frag} {F H : Hp} {M : MS} {v : V} {d : D} {T : String} (o : HeapOk K F M H) (i : IsD K F v d) (e : tyD (view M d) = some T) (hT : T = "str" ∨ T = "int" ∨ T = "list" ∨ T = "dict") : tyV K T v H := by
  rcases seen o i with ⟨p, rfl, rfl, ⟨ds', xs, _, e', hh, q⟩ | ⟨es, kvs, _, e', hh, q⟩ | ⟨C', fs', dx, gs, _, e', hh, q⟩ | ⟨_, e'⟩⟩ | ⟨n, e'⟩
  · rw [e'] at e; cases e; exact .inl ⟨rfl, _, .of hh⟩
  · rw [e'] at e; cases e; exact .inr (.inr (.inl ⟨rfl, .inl ⟨_, hh⟩⟩))
  · rw [e'] at e; cases e
  · rw [e'] at e; cases e
  · rw [e'] at e
    cases i with
    | int => cases e; rfl
    | str => cases e; rfl
    | lst s r => cases e; exact .inl ⟨rfl, _, .of (o.sub _ _ s)⟩
    | dct s r => cases e; exact .inr (.inr (.inl ⟨rfl, .inl ⟨_, o.sub _ _ s⟩⟩))
    | non => cases e; simp at hT
    | bl => cases e; simp at hT
    | tup s r => cases e; simp at hT
    | _ => cases e
theorem xe_bm (pa : PlainAttrs T) (slot : Slot T name id) (hty : typeOf (.builtin id) = pure (.type "method_descriptor")) (hm : MtR X id r) (l : LiftsM X.K T om r) (hT : T = "str" ∨ T = "int" ∨ T = "list" ∨ T = "dict") (ho : XE X G o w) (ha : XA X G (e :: es) ws)
    (hbase : attributeBase o name X.env (eval o X.env) = eval o X.env := by rfl)
    (hfew : ((backTo cpos (starEach (e :: es) X.env)).all (fun x => !x.1) && (backToKw cpos (keywordEach [] X.env)).all (fun x => x.1.isSome)
      && decide ((e :: es).length + ([] : List Keyword).length + (if ([] : List Keyword).isEmpty then 0 else 1) < 30)) = true := by rfl)
    (hline : (apos.endLine == cpos.line) = true := by rfl) (hs : starEach (e :: es) X.env = (false, eval e X.env) :: starEach es X.env := by rfl) (hplain : (backTo cpos (starEach es X.env)).any (·.1) = false := by rfl) :
    XE X G (.Call (.Attribute o name apos) (e :: es) [] cpos) (wBM T om w ws) :=
  PE.imp (pe_bm pa slot hty hm ho ha hbase hfew hline hs hplain) fun σ H Q ⟨ρ, F, M, x, k, a, q, kt⟩ => ⟨ρ, F, M, x, _, a, q, fun v d F1 M1 H1 g1 o1 i1 ⟨ty, q1⟩ =>
    ⟨tyV_of o1 i1 ty hT, ρ, F1, M1, x, _, a.step g1 o1, q1, fun vs ds F2 M2 H2 g2 o2 i2 q2 => l F2 M2 H2 v d vs ds _ Q o2 (i1.mono g2.ex) i2 q2 fun w c F' H' g o i z => kt w c F' M2 H' ((g1.trans g2).trans g) o i z⟩⟩
end
end TV

set_option Elab.async false
set_option linter.all false
set_option maxRecDepth 100000
set_option maxHeartbeats 1000000
/-! Defs that are called where no repr of a list or tuple is under way (guards = some []): their promise, their calls. -/
namespace TV
open PySem PySem.Spec PyProof.Rows L2

/-- where a def runs: room, and no repr around -/
structure Rm (k : Nat) (A : Around) : Prop where
  room : Room k A
  grd : A.guards = some []
theorem Rm.mono {j k : Nat} {A : Around} (r : Rm k A) (h : j ≤ k) : Rm j A := ⟨r.room.mono h, r.grd⟩
theorem Rm.deeper {k : Nat} {A : Around} (r : Rm (k + 1) A) (env : Env) : Rm k (A.deeper env) := ⟨r.room.deeper env, r.grd⟩
theorem Rm.u64 {k : Nat} {A : Around} (r : Rm k A) : A.units + 64 < cLine := by have := r.room.un; omega
theorem Rm.u1 {k : Nat} {A : Around} (r : Rm k A) : A.units + 1 < cLine := by have := r.room.un; omega
theorem Rm.call : Rm 200 callerA := ⟨⟨rfl, by decide +kernel, by decide +kernel⟩, rfl⟩

structure FnG (P : Program) (w : World) (K : PySem.W.Frag) (mg : Str → Option Value) (base : Heap) (CX : CXT) (k : Nat) (f : Addr) (fd : FuncData) (ps : List Str) (sp : Sp) : Prop where
  many : ∀ vs H Q E, sp vs H Q E → vs.length = ps.length
  goes : ∀ (A : Around) (outer : List Env) (s : Shared) (H : Hp) (args : Args) (us : List Value) (vs : List V) (Q : VK) (E : XK), Rm k A → Env0 P w K mg base A outer s H → BindsTo s fd args (ps.zip us) → Vals vs us → sp vs H Q E →
    codeAny (model P w) A (.call (.ref f) args) (CR CX outer P w H s Q E) s
section
variable {P : Program} {w : World} {K : PySem.W.Frag} {mg : Str → Option Value} {base : Heap} {CX : CXT}
theorem FnG.mono {j k : Nat} {f : Addr} {fd : FuncData} {ps : List Str} {sp : Sp} (F : FnG P w K mg base CX j f fd ps sp) (h : j ≤ k) : FnG P w K mg base CX k f fd ps sp :=
  ⟨F.many, fun A outer s H args us vs Q E r => F.goes A outer s H args us vs Q E (r.mono h)⟩
theorem FnG.imp {k : Nat} {f : Addr} {fd : FuncData} {ps : List Str} {sp sp' : Sp} (F : FnG P w K mg base CX k f fd ps sp) (h : ∀ vs H Q E, sp' vs H Q E → sp vs H Q E) : FnG P w K mg base CX k f fd ps sp' :=
  ⟨fun vs H Q E q => F.many vs H Q E (h _ _ _ _ q), fun A outer s H args us vs Q E r e0 hb hv q => F.goes A outer s H args us vs Q E r e0 hb hv (h _ _ _ _ q)⟩
/-- a def of the text, by its body -/
theorem fnG_of {k : Nat} {f : Addr} {x qual : Str} {st : Stmt} {fd : FuncData} {N ps : List Str} {sp : Sp} (F : Fun K x qual st f fd) (S : FnScope N ps (defScope st)) (many : ∀ vs H Q E, sp vs H Q E → vs.length = ps.length)
    (body : ∀ (cdv : Value) (A : Around) (outer : List Env) (s : Shared) (H : Hp) (vs : List V) (Q : VK) (E : XK), Rm k (A.deeper (envOfC qual (defScope st) s.heap.objs.size f cdv)) → sp vs H Q E →
      ∃ t, PSs (cxOf CX P w K mg base N qual (defScope st) f cdv A outer s H E) (defBody st) t ∧ t { nx := fun _ H' => Q .non H', rt := Q } (L2.start N vs) H) :
    FnG P w K mg base CX (k + 1) f fd ps sp := by
  obtain ⟨oc, od, kV, doc, pm, an, cdv, ct, osl, rfl, found, coded⟩ := F.ex
  refine ⟨many, fun A outer s H args us vs Q E rm e0 bound rel asked => ?_⟩
  have count := many _ _ _ _ asked
  have inK : K.In s.heap := e0.mod.kin.keeps fun b o e => (e0.bs b o e).1
  have free : s.heap.NoLimit := e0.mod.nolimit.keeps fun b o e => (e0.bs b o e).1
  have kinds : ∀ y ∈ ps.zip us, (defScope st).names.lookup y.1 = some .local ∨ ((defScope st).names.lookup y.1 = some .cell ∧ ((cellsFrom (s.heap.objs.size + 1) (defScope st).names []).lookup y.1).isSome = true) := by
    intro ⟨n, v⟩ mem
    rcases S.par n (List.of_mem_zip mem).1 with q | q
    · exact .inl q
    · exact .inr ⟨q, PySem.W.cellsFrom_some _ _ _ (.inl q)⟩
  refine codeAny_call_function rm.room.depth (inK _ _ found) rfl S.co S.gen rfl (PySem.W.codeRec_of inK coded) (bound _ _ _ _ ?_)
  refine wpAny_newFunctionEnv_cells S.kind kinds fun env same s1 x => ?_
  subst same
  refine ⟨free.keeps x.toInCall.keep, codeAny_func ?_⟩
  obtain ⟨t, derived, holds⟩ := body cdv A outer s H vs Q E (rm.deeper _) asked
  have I := inv_start (CX := CX) (E := E) (N := N) S rm.room.hd e0 count rel x
  have ends : ∀ {σ' : L2.St} {H' : Hp} {v : V} {u : Value} {s' : Shared}, Inv (cxOf CX P w K mg base N qual (defScope st) f cdv A outer s H E) [] σ' H' s' → RelV v u → Q v H' → CE outer P w H s Q u s' :=
    fun {σ' H' v u s'} J rv q => ⟨v, H', J.os, J.bare, J.base, J.hok, rv, q⟩
  refine wpAny_mono (derived.run [] s1 (L2.start N vs) H _ I holds) (fun fl s' over => ?_) fun e s' z => z
  cases fl with
  | ret u => obtain ⟨v, σ', H', J, rv, q⟩ := over; exact ends J rv q
  | next => obtain ⟨σ', H', J, q⟩ := over; exact ends (v := V.non) (u := Value.none) J rfl q
  | brk => obtain ⟨_, _, _, q⟩ := over; exact q.elim
  | cont => obtain ⟨_, _, _, q⟩ := over; exact q.elim
end
section
variable {X : Cx} {CX : CXT} {G : XK} {k : Nat} {f : Addr} {fd : FuncData} {ps : List Str} {sp : Sp} {dvs : List V} {ds : List Value} {E : XK} {x : Str} {p pos : Pos} {e : Expr} {es : List Expr} {t : TA}
theorem goesG {pins : List (Addr × Obj)} {σ : L2.St} {H : Hp} {s : Shared} {Q : VK} {us : List Value} {vs : List V} (F : FnG X.prog X.w X.K X.mg X.base CX k f fd ps sp) (rm : Rm k X.A) (bound : Binds X.K fd ps ds) (dr : Vals dvs ds) (out : Passes CX X E)
    (I : Inv X pins σ H s) (rel : Vals vs us) (asked : sp (vs ++ dvs) H Q E) : wpAny (model X.prog X.w) X.A (call (.ref f) us) (EP X pins σ Q) X.xe s := by
  have all : Vals (vs ++ dvs) (us ++ ds) := rel.append dr
  have count : (us ++ ds).length = ps.length := by rw [← all.length]; exact F.many _ _ _ _ asked
  refine wpAny_call (codeAny_mono (F.goes X.A X.stack s H ⟨us, []⟩ (us ++ ds) (vs ++ dvs) Q E rm I.env0 (bound s us I.kIn count) all asked) fun r s' over => ?_)
  rcases r with e | fl
  · exact out pins σ H s e s' I over
  · cases fl with
    | ret u => exact I.after over
    | next => exact over.elim
    | brk => exact over.elim
    | cont => exact over.elim
theorem pe_callG (F : FnG X.prog X.w X.K X.mg X.base CX k f fd ps sp) (rm : Rm k X.A) (glob : Gl X x) (there : X.mg x = some (.ref f)) (kept : PySem.W.keepIn X.K (.ref f) = true) (bound : Binds X.K fd ps ds) (dr : Vals dvs ds) (out : Passes CX X E)
    (args : PA X (e :: es) t) (nodb : (x == ("__debug__" : Str)) = false := by decide) (plain1 : starEach (e :: es) X.env = (false, eval e X.env) :: starEach es X.env := by rfl) (plain2 : (backTo pos (starEach es X.env)).any (·.1) = false := by rfl) :
    PE X (.Call (.Name x p) (e :: es) [] pos) (tCall sp dvs E t) := by
  refine ⟨fun pins s σ H Q I h => wpAny_Call_Name_kw (ld_glob I glob there ?_ nodb)⟩
  refine PySem.W.callWith_K (h₀ := X.base) I.ok.mod.kin kept (thn (args.run pos pins s σ H _ I h) fun us s1 ⟨vs, H1, I1, r, q⟩ => ⟨I1.kIn, ?_⟩) plain1 plain2
  exact goesG F rm bound dr out I1 r q
theorem pe_callG0 (F : FnG X.prog X.w X.K X.mg X.base CX k f fd ps sp) (rm : Rm k X.A) (glob : Gl X x) (there : X.mg x = some (.ref f)) (kept : PySem.W.keepIn X.K (.ref f) = true) (bound : Binds X.K fd ps ds) (dr : Vals dvs ds) (out : Passes CX X E)
    (nodb : (x == ("__debug__" : Str)) = false := by decide) : PE X (.Call (.Name x p) [] [] pos) (tCall sp dvs E tNil) :=
  ⟨fun pins s σ H Q I h => wpAny_Call_Name_kw (ld_glob I glob there (PySem.W.callWith_K0 I.kIn kept (goesG (us := []) F rm bound dr out I .nil h)) nodb)⟩
end

/-! ### over trees -/
section
variable {X : Cx} {CX : CXT} {G : XK} {k : Nat} {f : Addr} {fd : FuncData} {ps : List Str} {sp : DSp} {x : Str} {p pos : Pos} {e : Expr} {es : List Expr} {w : DA}
theorem xcall (F : FnG X.prog X.w X.K X.mg X.base CX k f fd ps (rSp X.K sp)) (rm : Rm k X.A) (hg : Gl X x) (hm : X.mg x = some (.ref f)) (hk : PySem.W.keepIn X.K (.ref f) = true) (hb : Binds X.K fd ps []) (hx : Passes CX X G)
    (ha : XA X G (e :: es) w) (hdb : (x == ("__debug__" : Str)) = false := by decide) (he : starEach (e :: es) X.env = (false, eval e X.env) :: starEach es X.env := by rfl) (hpl : (backTo pos (starEach es X.env)).any (·.1) = false := by rfl) :
    XE X G (.Call (.Name x p) (e :: es) [] pos) (wCall sp w) :=
  PE.imp (pe_callG F rm hg hm hk hb .nil hx ha hdb he hpl) fun σ H Q ⟨ρ, F, M, x, k, a, q, kt⟩ => ⟨ρ, F, M, x, _, a, q, fun vs ds F1 M1 H1 g1 o1 i1 q1 => by
    show rSp X.K sp (vs ++ []) H1 Q G
    rw [List.append_nil]
    exact ⟨ds, F1, M1, x, k, o1, i1, q1, fun v d F2 M2 H2 g2 => kt v d F2 M2 H2 (g1.trans g2), a.xok.step g1⟩⟩
/-- .. a list is handed back that is new: the caller's own -/
theorem xcall0 (F : FnG X.prog X.w X.K X.mg X.base CX k f fd ps (rSp X.K sp)) (rm : Rm k X.A) (hg : Gl X x) (hm : X.mg x = some (.ref f)) (hk : PySem.W.keepIn X.K (.ref f) = true) (hb : Binds X.K fd ps []) (hx : Passes CX X G)
    (hdb : (x == ("__debug__" : Str)) = false := by decide) : XE X G (.Call (.Name x p) [] [] pos) (wCall sp wNil) :=
  PE.imp (pe_callG0 F rm hg hm hk hb .nil hx hdb) fun σ H Q ⟨ρ, F, M, x, k, a, q, kt⟩ => ⟨[], F, M, x, k, a.heap, .nil, q, kt, a.xok⟩
end
section
variable {P : Program} {w : World} {K : PySem.W.Frag} {mg : Str → Option Value} {base : Heap}
/-- THE RULE for a def that lets no exception out -/
theorem fnT {x qual : Str} {st : Stmt} {f : Addr} {fd : FuncData} {N ps : List Str} {k : Nat} {sp : DSp} (F : Fun K x qual st f fd) (S : FnScope N ps (defScope st)) (len : ∀ ds M x k, sp ds M x k → ds.length = ps.length)
    (hN : ps.length ≤ N.length)
    (hbody : ∀ (cdv : Value) (A : Around) (outer : List Env) (s : Shared) (H : Hp) (E : XK), Rm k (A.deeper (envOfC qual (defScope st) s.heap.objs.size f cdv)) →
      ∃ w', YSs (cxOf CX0 P w K mg base N qual (defScope st) f cdv A outer s H E).nox E0 (defBody st) w' ∧
        ∀ ds M kk, sp ds M (fun _ _ _ => False) kk → w' { nx := fun _ M => kk .non M, rt := kk } (start0 N ds) M (fun _ _ _ => False))
    (hX : ∀ ds M x kk, sp ds M x kk → sp ds M (fun _ _ _ => False) kk) :
    FnG P w K mg base CX0 (k + 1) f fd ps (rSp K sp) := by
  refine fnG_of F S (fun vs H Q E h => ?_) (fun cdv A outer s H vs Q E hr h => ?_)
  · obtain ⟨ds, F, M, x, kk, o, i, q, _⟩ := h
    rw [i.len]; exact len _ _ _ _ q
  · obtain ⟨w', hw, hq⟩ := hbody cdv A outer s H E hr
    refine ⟨_, hw.nox, ?_⟩
    obtain ⟨ds, F, M, x, kk, o, i, q, kt, xo⟩ := h
    refine ⟨start0 N ds, F, M, _, _, ⟨start_env i (by rw [len _ _ _ _ q]; exact hN), o, fun _ _ _ _ _ _ _ _ _ _ _ z => z.elim⟩, hq ds M kk (hX _ _ _ _ q), ⟨fun σ' ρ' F' M' H' g o' en z => ?_, fun v d F' M' H' g o' i' z => kt v d F' M' H' g o' i' z, fun _ _ _ _ _ _ _ _ z => z.elim, fun _ _ _ _ _ _ _ _ z => z.elim⟩⟩
    exact kt .non .non F' M' H' g o' .non z
end
end TV

set_option Elab.async false
set_option linter.all false
set_option maxRecDepth 100000
set_option maxHeartbeats 1000000
/-! repr of data; dicts; lists that grow; texts. -/
namespace TV
open PySem PySem.Spec PyProof.Rows L2

/-! ### repr -/
def keyP : Key → PyData
  | .inl i => .int i
  | .inr s => .str s
mutual
def toR : D → Option PyData
  | .non => some .none
  | .bl b => some (.bool b)
  | .int i => some (.int i)
  | .str s => some (.str s)
  | .tup ds => (toRs ds).map .tuple
  | .lst ds => (toRs ds).map .list
  | .fro ds => (toRs ds).map .list
  | .dct es => (toRe es).map .dict
  | .ins _ _ => none
  | .obj _ => none
  | .ty _ => none
def toRs : List D → Option (List PyData)
  | [] => some []
  | d :: ds => match toR d, toRs ds with
    | some p, some ps => some (p :: ps)
    | _, _ => none
def toRe : List (Key × D) → Option (List (PyData × PyData))
  | [] => some []
  | (k, d) :: es => match toR d, toRe es with
    | some p, some ps => some ((keyP k, p) :: ps)
    | _, _ => none
end
section
variable {X : Cx} {pins : List (Addr × Obj)} {σ : L2.St} {F H : Hp} {M : MS} {s : Shared}
theorem smL (o : HeapOk X.K F M H) (I : Inv X pins σ H s) {a : Addr} {xs : List V} (h : SqL X.K F a xs) : a ≠ sysModules := fun e => by
  obtain ⟨φ, h1, h2, _⟩ := o.sm
  subst e
  rcases h with (h | ⟨_, h⟩) | ⟨ob, its, n, hk, _⟩
  · rw [h2] at h; cases h
  · rw [h2] at h; cases h
  · have := (I.bs _ _ (I.mod.kin _ _ hk)).2
    rw [h1] at this; cases this
mutual
theorem readsD (o : HeapOk X.K F M H) (I : Inv X pins σ H s) : ∀ (d : D) (v : V) (u : Value) (p : PyData), IsD X.K F v d → RelV v u → toR d = some p → ∃ as, Reads s.heap u p as ∧ sysModules ∉ as
  | .non, _, _, _, .non, r, e => by cases e; cases r; exact ⟨_, .none, by simp⟩
  | .bl b, _, _, _, .bl, r, e => by cases e; cases r; exact ⟨_, .bool b, by simp⟩
  | .int i, _, _, _, .int, r, e => by cases e; obtain ⟨t, rfl⟩ := r; exact ⟨_, .int i t, by simp⟩
  | .str i, _, _, _, .str, r, e => by cases e; obtain ⟨t, rfl⟩ := r; exact ⟨_, .str i t, by simp⟩
  | .tup ds, _, _, _, .tup q rs, r, e => by
    unfold toR at e
    cases h : toRs ds with
    | none => rw [h] at e; cases e
    | some ps =>
      rw [h] at e; cases e
      cases r
      obtain ⟨its, rv, ⟨ob, ho, hc, n, hd⟩, _⟩ := I.tuple (sqt_mono o.sub q)
      obtain ⟨as, ra, na⟩ := readsDs o I ds _ its ps rs rv h
      exact ⟨_, .tuple ho hc hd ra, na⟩
  | .lst ds, _, _, _, .lst q rs, r, e => by
    unfold toR at e
    cases h : toRs ds with
    | none => rw [h] at e; cases e
    | some ps =>
      rw [h] at e; cases e
      cases r
      obtain ⟨its, rv, ⟨ob, n, ho, hc, _, hd⟩, _⟩ := I.list (.of (o.sub _ _ q))
      obtain ⟨as, ra, na⟩ := readsDs o I ds _ its ps rs rv h
      exact ⟨_, .list ho hc hd ra, fun z => (List.mem_cons.mp z).elim (fun y => smL o I (.of q) y.symm) na⟩
  | .fro ds, _, _, _, .fro q rs, r, e => by
    unfold toR at e
    cases h : toRs ds with
    | none => rw [h] at e; cases e
    | some ps =>
      rw [h] at e; cases e
      cases r
      obtain ⟨its, rv, ⟨ob, n, ho, hc, _, hd⟩, _⟩ := I.list (sql_mono o.sub q)
      obtain ⟨as, ra, na⟩ := readsDs o I ds _ its ps rs rv h
      exact ⟨_, .list ho hc hd ra, fun z => (List.mem_cons.mp z).elim (fun y => smL o I q y.symm) na⟩
  | .dct es, _, _, _, .dct q rs, r, e => by
    unfold toR at e
    cases h : toRe es with
    | none => rw [h] at e; cases e
    | some ps =>
      rw [h] at e; cases e
      cases r
      obtain ⟨hz, hS, vs, rel, ob, ds, ep, ho, hx, hd, hK, hP, hn⟩ := I.hok _ _ (o.sub _ _ q)
      obtain ⟨as, bs, ra, rb, na, nb⟩ := readsEs o I es _ vs ds.toList ps rs rel hP h
      exact ⟨_, .dict ho hx.1 hd ra rb, fun z => by
        rcases List.mem_cons.mp z with y | y
        · rw [y] at hS; simp at hS
        · rcases List.mem_append.mp y with y | y
          · exact na y
          · exact nb y⟩
theorem readsDs (o : HeapOk X.K F M H) (I : Inv X pins σ H s) : ∀ (ds : List D) (vs : List V) (us : List Value) (ps : List PyData), IsDs X.K F vs ds → Vals vs us → toRs ds = some ps → ∃ as, ReadsAll s.heap us ps as ∧ sysModules ∉ as
  | [], _, _, _, .nil, r, e => by unfold toRs at e; cases e; cases r; exact ⟨_, .nil, by simp⟩
  | d :: ds, _, _, _, .cons i rs, r, e => by
    unfold toRs at e
    cases h1 : toR d with
    | none => rw [h1] at e; simp at e
    | some p =>
      cases h2 : toRs ds with
      | none => rw [h1, h2] at e; simp at e
      | some ps =>
        rw [h1, h2] at e; cases e
        cases r with
        | cons r1 r2 =>
          obtain ⟨as, ra, na⟩ := readsD o I d _ _ p i r1 h1
          obtain ⟨bs, rb, nb⟩ := readsDs o I ds _ _ ps rs r2 h2
          exact ⟨_, .cons ra rb, fun z => (List.mem_append.mp z).elim na nb⟩
theorem readsEs (o : HeapOk X.K F M H) (I : Inv X pins σ H s) : ∀ (es : List (Key × D)) (kvs : List (Key × V)) (vs : List (Key × Value)) (ds : List DictEntry) (ps : List (PyData × PyData)), IsEs X.K F kvs es → KV kvs vs → Pairs (mixKind X.prog X.w) ds vs → toRe es = some ps →
    ∃ as bs, ReadsAll s.heap (ds.map (·.key)) (ps.map (·.1)) as ∧ ReadsAll s.heap (ds.map (·.val)) (ps.map (·.2)) bs ∧ sysModules ∉ as ∧ sysModules ∉ bs
  | [], _, _, _, _, .nil, r, pr, e => by
    unfold toRe at e; cases e; cases r
    cases pr
    exact ⟨_, _, .nil, .nil, by simp, by simp⟩
  | (k, d) :: es, _, _, _, _, .cons i rs, r, pr, e => by
    unfold toRe at e
    cases h1 : toR d with
    | none => rw [h1] at e; simp at e
    | some p =>
      cases h2 : toRe es with
      | none => rw [h1, h2] at e; simp at e
      | some ps =>
        rw [h1, h2] at e; cases e
        cases r with
        | cons r1 r2 =>
          cases pr with
          | @cons e0 _ _ _ hk hv pr =>
            obtain ⟨rk, rv⟩ := r1
            obtain ⟨as, ra, na⟩ := readsD o I d _ _ p i rv h1
            obtain ⟨bs, cs, rb, rc, nb, nc⟩ := readsEs o I es _ _ _ ps rs r2 pr h2
            dsimp only at rk
            rw [← rk] at hk
            have key : ∃ ks, Reads s.heap e0.key (keyP k) ks ∧ sysModules ∉ ks := by
              rcases keyIs_shape hk with ⟨j, t, e1, e2⟩ | ⟨j, t, e1, e2⟩
              · rw [e2]; subst e1; exact ⟨_, .int j t, by simp⟩
              · rw [e2]; subst e1; exact ⟨_, .str j t, by simp⟩
            obtain ⟨ks, rk, nk⟩ := key
            refine ⟨_, _, .cons rk rb, .cons (by show Reads s.heap e0.val p as; rw [hv]; exact ra) rc, fun z => (List.mem_append.mp z).elim nk nb, fun z => (List.mem_append.mp z).elim na nc⟩
end
end
theorem view_R {K : PySem.W.Frag} {F H : Hp} {M : MS} {v : V} {d : D} {p : PyData} (o : HeapOk K F M H) (i : IsD K F v d) (e : toR (view M d) = some p) : ∃ F' d', Same F F' ∧ IsD K F' v d' ∧ toR d' = some p ∧ ∃ M', HeapOk K F' M' H := by
  rcases seen o i with ⟨a, rfl, rfl, ⟨ds, xs, em, e', hh, r⟩ | ⟨es, kvs, em, e', hh, r⟩ | ⟨C, fs, dx, gs, _, e', _⟩ | ⟨_, e'⟩⟩ | ⟨_, e'⟩
  · have nf := (o.mu a _ em).1
    exact ⟨upd F a (.lst xs), .lst ds, Same.upd nf, .lst upd_same (r.mono (Same.upd nf)), by rw [← e']; exact e, _, o.melt em hh⟩
  · have nf := (o.mu a _ em).1
    exact ⟨upd F a (.dK kvs), .dct es, Same.upd nf, .dct upd_same (r.mono (Same.upd nf)), by rw [← e']; exact e, _, o.melt em hh⟩
  · rw [e'] at e; unfold toR at e; cases e
  · rw [e'] at e; unfold toR at e; cases e
  · exact ⟨F, d, fun _ _ h => h, i, by rw [← e']; exact e, M, o⟩
/-- repr(x) -/
def reprC : OC := fun M ds q => ∃ d p, ds = [d] ∧ toR (view M d) = some p ∧ p.showable = true ∧ p.depth ≤ 60 ∧ p.shown.length ≤ 1000000 ∧ q (.str p.shown)
def rRepr (K : PySem.W.Frag) : List V → Hp → VK → Prop := fun xs H Q => ∃ F M v d p, HeapOk K F M H ∧ xs = [v] ∧ IsD K F v d ∧ toR d = some p ∧ p.showable = true ∧ p.depth ≤ 60 ∧ p.shown.length ≤ 1000000 ∧ Q (.str p.shown) H
theorem call_repr {X : Cx} {k : Nat} (rm : Rm k X.A) : CallR X (.builtin "repr") (rRepr X.K) := by
  intro pins s σ H xs us Q I rv ⟨F, M, v, d, p, o, e1, i, e, hs, hd, hl, q⟩
  subst e1
  obtain ⟨u, rfl, r⟩ := vals1 rv
  have u64 := rm.u64
  have hz : p.shown.length ≤ sizeLine := Nat.le_trans hl (by decide)
  obtain ⟨as, rd, na⟩ := readsD o I d v u p i r e
  have fin : ∀ (h' : Heap) (t : Tok) (tk : Nat), (∀ b o, s.heap.get? b = some o → h'.get? b = some o) → EP X pins σ Q (.str p.shown t) { s with heap := h', toks := tk } := fun h' t tk hk => ⟨.str p.shown, H, I.kept hk, ⟨t, rfl⟩, q⟩
  cases rd with
  | none => exact PySem.P.repr_of_none ⟨.str (PyData.none).shown, H, I.tok _, ⟨s.toks, by rw [PyData.shown_none]⟩, q⟩
  | bool b => exact PySem.P.repr_of_bool ⟨.str (PyData.bool b).shown, H, I.tok _, ⟨s.toks, by rw [PyData.shown_bool]⟩, q⟩
  | int j t => exact PySem.P.repr_of_int (by simpa [PyData.showable] using hs) ⟨.str (PyData.int j).shown, H, I.tok _, ⟨s.toks, by simp only [PyData.shown]⟩, q⟩
  | str x t => exact PySem.P.repr_of_str ⟨.str (PyData.str x).shown, H, I.tok _, ⟨s.toks, by simp only [PyData.shown]⟩, q⟩ (by simpa only [PyData.shown] using hz)
  | list h1 h2 h3 h4 => exact repr_of_reads' (.list h1 h2 h3 h4) hs (fun _ => na) rm.grd (by omega) (fun _ _ h => h) (fun h' u tk hk => fin h' u tk hk) hz
  | tuple h1 h2 h3 h4 => exact repr_of_reads' (.tuple h1 h2 h3 h4) hs (fun _ => na) rm.grd (by omega) (fun _ _ h => h) (fun h' u tk hk => fin h' u tk hk) hz
  | dict h1 h2 h3 h4 h5 => exact repr_of_reads' (.dict h1 h2 h3 h4 h5) hs (fun _ => na) rm.grd (by omega) (fun _ _ h => h) (fun h' u tk hk => fin h' u tk hk) hz
theorem l_reprC {X : Cx} : LiftsC X.K reprC (rRepr X.K) := fun F M H vs ds q Q o i ⟨d, p, ed, e, hs, hd, hl, h⟩ kt => by
  subst ed
  obtain ⟨v, rfl, iv⟩ := isDs1 i
  obtain ⟨F', d', _, i', e', M', o'⟩ := view_R o iv e
  exact ⟨F', M', v, d', p, o', rfl, i', e', hs, hd, hl, kt _ _ F H .refl o .str h⟩

/-! ### dicts by known keys -/
def valD (es : List (Key × D)) (k : Key) : Option D := (es.find? fun e => decide (e.1 = k)).map (·.2)
def putD (es : List (Key × D)) (k : Key) (d : D) : List (Key × D) :=
  if (es.any fun e => decide (e.1 = k)) = true then es.map (fun e => if e.1 = k then (e.1, d) else e) else es ++ [(k, d)]
theorem val_v {K : PySem.W.Frag} {F : Hp} {k : Key} : ∀ {kvs es}, IsEs K F kvs es → (∀ d, valD es k = some d → ∃ v, valV kvs k = some v ∧ IsD K F v d) ∧ (valV kvs k).isSome = (valD es k).isSome
  | _, _, .nil => ⟨fun d e => by simp [valD] at e, rfl⟩
  | (j, v) :: kvs, (_, d) :: es, .cons i r => by
    obtain ⟨h1, h2⟩ := val_v (k := k) r
    unfold valV valD at *
    by_cases e : j = k
    · rw [List.find?_cons_of_pos (by simpa using e), List.find?_cons_of_pos (by simpa using e)]
      exact ⟨fun d' e' => by cases e'; exact ⟨_, rfl, i⟩, rfl⟩
    · rw [List.find?_cons_of_neg (by simpa using e), List.find?_cons_of_neg (by simpa using e)]
      exact ⟨h1, h2⟩
theorem any_v {K : PySem.W.Frag} {F : Hp} {k : Key} : ∀ {kvs es}, IsEs K F kvs es → (kvs.any fun e => decide (e.1 = k)) = (es.any fun e => decide (e.1 = k))
  | _, _, .nil => rfl
  | _, _, .cons i r => by rw [List.any_cons, List.any_cons, any_v r]
theorem map_v {K : PySem.W.Frag} {F : Hp} {k : Key} {v : V} {d : D} (q : IsD K F v d) : ∀ {kvs es}, IsEs K F kvs es → IsEs K F (kvs.map fun e => if e.1 = k then (e.1, v) else e) (es.map fun e => if e.1 = k then (e.1, d) else e)
  | _, _, .nil => .nil
  | (j, v') :: kvs, (_, d') :: es, .cons i r => by
    rw [List.map_cons, List.map_cons]
    by_cases e : j = k
    · rw [if_pos e, if_pos e]; exact .cons q (map_v q r)
    · rw [if_neg e, if_neg e]; exact .cons i (map_v q r)
theorem IsEs.app {K : PySem.W.Frag} {F : Hp} : ∀ {xs ds ys es}, IsEs K F xs ds → IsEs K F ys es → IsEs K F (xs ++ ys) (ds ++ es)
  | _, _, _, _, .nil, q => q
  | _, _, _, _, .cons h r, q => .cons h (r.app q)
theorem IsEs.len {K : PySem.W.Frag} {F : Hp} : ∀ {xs ds}, IsEs K F xs ds → xs.length = ds.length
  | _, _, .nil => rfl
  | _, _, .cons _ r => congrArg (· + 1) r.len
theorem put_v {K : PySem.W.Frag} {F : Hp} {k : Key} {v : V} {d : D} (q : IsD K F v d) {kvs es} (r : IsEs K F kvs es) : IsEs K F (putK kvs k v) (putD es k d) := by
  unfold putK putD
  rw [any_v r]
  split
  · exact map_v q r
  · exact r.app (.cons q .nil)
/-- a key: an int, a text -/
def keyD : D → Option Key
  | .int i => some (.inl i)
  | .str s => some (.inr s)
  | _ => none
theorem key_v {K : PySem.W.Frag} {F : Hp} {v : V} {d : D} {k : Key} (i : IsD K F v d) (e : keyD d = some k) : v = kV k := by
  cases i <;> first | (cases e; rfl) | (cases e; done)
section
variable {X : Cx} {G : XK} {o i e : Expr} {wo wi we : DE} {pos pos' : Pos}
def dgetD : OD := fun M d e q => ∃ es k c, view M d = .dct es ∧ keyD e = some k ∧ valD es k = some c ∧ q c
def wDget (wo wi : DE) : DE := fun ρ M x k => wo ρ M x fun d M1 => wi ρ M1 x fun e M2 => dgetD M2 d e fun c => k c M2
theorem xe_dget (hu : X.A.units + 1 < cLine) (ho : XE X G o wo) (hi : XE X G i wi) (hs : NoSl i) : XE X G (.Subscript o i pos) (wDget wo wi) :=
  PE.imp (pe_dget hu ho hi hs) fun σ H Q ⟨ρ, F, M, x, k, a, q, kt⟩ => ⟨ρ, F, M, x, _, a, q, fun v d F1 M1 H1 g1 o1 i1 q1 => ⟨ρ, F1, M1, x, _, a.step g1 o1, q1, fun u e F2 M2 H2 g2 o2 i2 ⟨es, k, c, ev, ek, ec, q2⟩ => by
    obtain ⟨p, kvs, rfl, hp, r⟩ := asDct o2 (i1.mono g2.ex) ev
    obtain rfl := key_v i2 ek
    obtain ⟨w, ew, iw⟩ := (val_v r).1 c ec
    exact ⟨p, w, rfl, by rw [← ew]; exact .k hp, kt _ _ F2 M2 H2 (g1.trans g2) o2 iw q2⟩⟩⟩
/-- d[k] = v, d in the store -/
def wDput (wo wi we : DE) : DS := fun E ρ M x => we ρ M x fun c M1 => wo ρ M1 x fun d M2 => wi ρ M2 x fun e M3 => ∃ p es k, d = .obj p ∧ M3 p = some (.dct es) ∧ keyD e = some k ∧ es.length < 100000 ∧ E.nx ρ (updM M3 p (.dct (putD es k c)))
theorem ys_dput (hu : X.A.units + 1 < cLine) (ho : XE X G o wo) (hi : XE X G i wi) (hv : XE X G e we) (hs : swapsWith e (some (.Subscript o i pos')) pos.line X.env = pure false := by rfl) : YS X G (.Assign [.Subscript o i pos'] e pos) (wDput wo wi we) :=
  PS.imp (ps_dput hu ho hi hv hs) fun D σ H ⟨ρ, F, M, x, E, a, q, et⟩ => ⟨ρ, F, M, x, _, a, q, fun v c F1 M1 H1 g1 o1 i1 q1 => ⟨ρ, F1, M1, x, _, a.step g1 o1, q1, fun u d F2 M2 H2 g2 o2 i2 q2 => ⟨ρ, F2, M2, x, _, a.step (g1.trans g2) o2, q2, fun y e F3 M3 H3 g3 o3 i3 ⟨p, es, k, ed, em, ek, hl, q3⟩ => by
    subst ed
    cases i2
    obtain rfl := key_v i3 ek
    obtain ⟨nf, ob, hp, mo⟩ := o3.mu p _ em
    cases mo with
    | dct r =>
      have gg := ((g1.trans g2).trans g3)
      exact ⟨p, _, rfl, .k hp (by rw [r.len]; exact Nat.lt_of_lt_of_le hl (by decide)), et.nx σ ρ F3 _ _ (gg.trans (Gr.put em)) (o3.put nf (.dct (put_v (i1.mono (g2.trans g3).ex) r)) (o3.mS em)) (a.env.mono gg.ex) q3⟩⟩⟩⟩
/-- a written dict of text keys -/
def wPairs : List (Str × DE) → DSt → MS → XD → (List (Key × D) → MS → Prop) → Prop
  | [], _, M, _, k => k [] M
  | (s, w) :: r, ρ, M, x, k => w ρ M x fun d M1 => wPairs r ρ M1 x fun es M2 => k ((.inr s, d) :: es) M2
def trs (K : PySem.W.Frag) (G : XK) : List (Str × DE) → List (TE × TE)
  | [] => []
  | (s, w) :: r => (tC (.str s), rE K G w) :: trs K G r
theorem pairs_of {K : PySem.W.Frag} : ∀ (l : List (Str × DE)) {σ : L2.St} {ρ : DSt} {F : Hp} {M : MS} {H : Hp} {x : XD} {k : List (Key × D) → MS → Prop} {Q : List (V × V) → Hp → Prop}, At K G σ ρ F M H x → wPairs l ρ M x k →
    (∀ kvs es F' M' H', Gr F M H F' M' H' → HeapOk K F' M' H' → IsEs K F' kvs es → kvs.length = l.length → k es M' → Q (kvs.map fun e => (kV e.1, e.2)) H') → tPairs (trs K G l) σ H Q
  | [], σ, ρ, F, M, H, x, k, Q, a, q, kt => kt [] [] F M H .refl a.heap .nil rfl q
  | (s, w) :: r, σ, ρ, F, M, H, x, k, Q, a, q, kt => ⟨ρ, F, M, x, _, a, q, fun v d F1 M1 H1 g1 o1 i1 q1 => pairs_of r (a.step g1 o1) q1 fun kvs es F2 M2 H2 g2 o2 i2 hl q2 =>
    kt ((.inr s, v) :: kvs) _ F2 M2 H2 (g1.trans g2) o2 (.cons (i1.mono g2.ex) i2) (by simp [hl]) q2⟩
theorem merge_v {K : PySem.W.Frag} {F : Hp} : ∀ {more rs kvs es}, IsEs K F more rs → IsEs K F kvs es → IsEs K F (mergeK kvs more) (rs.foldl (fun acc e => putD acc e.1 e.2) es)
  | _, _, _, _, .nil, r => r
  | _, _, kvs, es, .cons (k := k) (x := x) (xs := xs) (d := d) (ds := ds) i q, r => by
    show IsEs K F (mergeK (putK kvs k x) xs) (ds.foldl (fun acc e => putD acc e.1 e.2) (putD es k d))
    exact merge_v q (put_v i r)
def dictOf (es : List (Key × D)) : List (Key × D) := es.foldl (fun acc e => putD acc e.1 e.2) []
/-- .. into the store -/
def wDictM (l : List (Str × DE)) : DE := fun ρ M x k => wPairs l ρ M x fun es M1 => ∀ p, M1 p = none → k (.obj p) (updM M1 p (.dct (dictOf es)))
theorem xe_dictM {keys : List (Option Expr)} {values : List Expr} {l : List (Str × DE)} (h : PPs X pos keys values (trs X.K G l)) (hall : keys.all (·.isSome) = true) (hl : keys.length = values.length) (h0 : keys ≠ []) (h15 : keys.length ≤ 15) (hk : l.length ≤ 15) : XE X G (.Dict keys values pos) (wDictM l) :=
  PE.imp (pe_disp h hall hl h0 h15) fun σ H Q ⟨ρ, F, M, x, k, a, q, kt⟩ p hp => by
    have a1 : At X.K G σ ρ F M (upd H p (.dK [])) x := ⟨a.env, a.heap.newU hp, a.xok.step (Gr.newU hp)⟩
    refine pairs_of l a1 q fun kvs es F1 M1 H1 g1 o1 i1 hlen q1 => ?_
    have e1 : H1 p = some (.dK []) := g1.fr p _ upd_same (a.heap.noF hp) (a.heap.noM hp)
    have f1 : F1 p = none := g1.keepF upd_same (a.heap.noF hp) (a.heap.noM hp)
    have m1 : M1 p = none := g1.keepM upd_same (a.heap.noM hp)
    have ns := a.heap.noS hp
    refine ⟨e1, kvs, rfl, by rw [hlen]; exact hk, kt _ _ F1 (updM M1 p (.dct (dictOf es))) _ ?_ (o1.put f1 (.dct (merge_v i1 .nil)) ns) .obj (q1 p m1)⟩
    exact (((Gr.newU hp).trans g1).adoptM hp).setU hp
theorem xps_nil : PPs X pos [] [] (trs X.K G []) := pps_nil
theorem xps_cons {s : Str} {j : Nat} {p0 : Pos} {v : Expr} {ks : List (Option Expr)} {vs : List Expr} {w : DE} {l : List (Str × DE)} (hv : XE X G v w) (hr : PPs X pos ks vs (trs X.K G l)) : PPs X pos (some (.Constant (.str s) j p0) :: ks) (v :: vs) (trs X.K G ((s, w) :: l)) := pps_cons pe_str hv hr
end
end TV

set_option Elab.async false
set_option linter.all false
set_option maxRecDepth 100000
set_option maxHeartbeats 1000000
namespace TV
open PySem PySem.Spec PyProof.Rows L2

section
variable {X : Cx}
/-! ### products -/
theorem mulOk_of {x : Str} {n : Int} (h1 : -1000000 ≤ n) (h2 : n ≤ 1000000) (h3 : x.length * n.toNat ≤ 1000000) : MulOk x n := by
  have hs : sizeLine = 16777216 := sizeLine_eq
  refine ⟨?_, fun h0 h => ?_, fun h0 h => ?_⟩
  · have e1 : decide (n < -(2 ^ 63 : Int)) = false := decide_eq_false (by omega)
    have e2 : decide (n ≥ 2 ^ 63) = false := decide_eq_false (by omega)
    rw [e1, e2]; rfl
  · have hn : 0 < n := by omega
    intro z
    have h4 : (x.length : Int) * n ≤ 1000000 := by
      have : ((x.length * n.toNat : Nat) : Int) ≤ 1000000 := by omega
      rw [Int.natCast_mul, Int.toNat_of_nonneg (by omega)] at this
      exact this
    have h5 : (x.length : Int) ≤ (2 ^ 63 - 1) / n := by
      rw [Int.le_ediv_iff_mul_le hn]
      omega
    omega
  · unfold Builtin.Str.tooLong
    simp
    omega
def rMulS : R2 := fun x y H Q => ∃ a n, x = .str a ∧ y = .int n ∧ MulOk a n ∧ Q (.str (Txt.mul a n)) H
theorem op_mulS : OpR X (binaryOp .Mult) rMulS := by
  intro pins s σ H x y v u Q I rx ry ⟨a, n, e1, e2, ok, q⟩
  subst e1 e2
  obtain ⟨t, rfl⟩ := rx
  obtain ⟨t', rfl⟩ := ry
  exact SB.mul ok fun t2 k => ⟨.str _, H, I.tok k, ⟨t2, rfl⟩, q⟩
def mulD : OD := fun M d e q => match d, e with
  | .int i, .int j => CMulW i j ∧ q (.int (i * j))
  | .str s, .int n => -1000000 ≤ n ∧ n ≤ 1000000 ∧ s.length * n.toNat ≤ 1000000 ∧ q (.str (Txt.mul s n))
  | .lst ds, .int n => 0 ≤ n ∧ n ≤ 100000 ∧ ds.length * n.toNat ≤ 100000 ∧ q (.lst (List.replicate n.toNat ds).flatten)
  | _, _ => False
def rMulD : R2 := fun x y H Q => (L2.rI CMulW (fun i j => .int (i * j)) x y H Q ∨ rMulS x y H Q) ∨ rRep x y H Q
theorem op_mulD : OpR X (binaryOp .Mult) rMulD := (op_mulW.or op_mulS).or op_rep
theorem IsDs.rep {K : PySem.W.Frag} {F : Hp} {xs : List V} {ds : List D} (h : IsDs K F xs ds) : ∀ n : Nat, IsDs K F (List.replicate n xs).flatten (List.replicate n ds).flatten
  | 0 => .nil
  | n + 1 => by
    rw [List.replicate_succ, List.replicate_succ, List.flatten_cons, List.flatten_cons]
    exact h.app (h.rep n)
theorem l_mulD : Lifts X.K mulD rMulD := fun F M H v u d e q Q o i1 i2 h kt => by
  unfold mulD at h
  split at h
  · obtain rfl := isD_int i1
    obtain rfl := isD_int i2
    exact .inl (.inl ⟨_, _, rfl, rfl, h.1, kt _ _ F H .refl o .int h.2⟩)
  · obtain rfl := isD_str i1
    obtain rfl := isD_int i2
    exact .inl (.inr ⟨_, _, rfl, rfl, mulOk_of h.1 h.2.1 h.2.2.1, kt _ _ F H .refl o .str h.2.2.2⟩)
  · obtain rfl := isD_int i2
    obtain ⟨p, xs, rfl, hp, r⟩ := asLst o i1 rfl
    exact .inr ⟨p, _, xs, rfl, rfl, hp, by omega, by omega, by rw [r.len]; exact sz5 h.2.2.1, fun z hz => kt _ _ (upd F z _) _ (.frz (o.noF hz) hz) (o.frz hz) (.lst upd_same ((r.rep _).mono (Same.upd (o.noF hz)))) h.2.2.2⟩
  · exact h.elim

/-! ### list(x), tuple(x) -/
def wListC (w : DA) : DA := fun ρ M x k => w ρ M x fun ds M1 => ∃ d es, ds = [d] ∧ (view M1 d = .lst es ∨ d = .fro es ∨ d = .tup es) ∧ k es M1
theorem xl_list {G : XK} {e : Expr} {w : DA} {p pos : Pos} (hg : Gl X "list") (hm : X.mg "list" = none) (ha : XA X G [e] w) (he : starEach [e] X.env = (false, eval e X.env) :: starEach [] X.env := by rfl) : XL X G (.Call (.Name "list" p) [e] [] pos) (wListC w) :=
  PE.imp (pe_callTy call_list_of hg hm (by decide +kernel) ha (by decide) (by decide) he (by rfl)) fun σ H Q ⟨ρ, F, M, x, k, a, q, kt⟩ => ⟨ρ, F, M, x, _, a, q, fun vs ds F1 M1 H1 g1 o1 i1 ⟨d, es, ed, ev, q1⟩ => by
    subst ed
    obtain ⟨v, rfl, iv⟩ := isDs1 i1
    have fin : ∀ p xs, v = .ref p → (SqL X.K H1 p xs ∨ SqT X.K H1 p xs) → IsDs X.K F1 xs es → ∃ p ys, [v] = [.ref p] ∧ (SqL X.K H1 p ys ∨ SqT X.K H1 p ys) ∧ ∀ l, H1 l = none → Q (.ref l) (upd H1 l (.lst ys)) := fun p xs ep hp r =>
      ⟨p, xs, by rw [ep], hp, fun z hz => kt z _ _ F1 M1 _ (g1.trans (.newU hz)) (o1.newU hz) (fresh0 g1 hz) upd_same (o1.noF hz) (o1.noM hz) r q1⟩
    rcases ev with ev | ev | ev
    · obtain ⟨p, xs, ep, hp, r⟩ := asLst o1 iv ev
      exact fin p xs ep (.inl (.of hp)) r
    · subst ev
      cases iv with
      | fro s r => exact fin _ _ rfl (.inl (sql_mono o1.sub s)) r
    · subst ev
      obtain ⟨p, xs, ep, hp, r, _⟩ := asTup o1 iv rfl
      exact fin p xs ep (.inr hp) r⟩
def tupleC : OC := fun M ds q => ∃ d es, ds = [d] ∧ (view M d = .lst es ∨ d = .tup es) ∧ q (.tup es)
theorem l_tupleC : LiftsC X.K tupleC (fun xs H Q => ∃ p ys, xs = [.ref p] ∧ ((SqL X.K H p ys ∧ ∀ l, H l = none → Q (.ref l) (upd H l (.tup ys))) ∨ (SqT X.K H p ys ∧ Q (.ref p) H))) := fun F M H vs ds q Q o i ⟨d, es, ed, ev, h⟩ kt => by
  subst ed
  obtain ⟨v, rfl, iv⟩ := isDs1 i
  rcases ev with ev | ev
  · obtain ⟨p, xs, rfl, hp, r⟩ := asLst o iv ev
    exact ⟨p, xs, rfl, .inl ⟨.of hp, fun z hz => kt _ _ (upd F z _) _ (.frz (o.noF hz) hz) (o.frz hz) (.tup (.of upd_same) (r.mono (Same.upd (o.noF hz)))) h⟩⟩
  · subst ev
    obtain ⟨p, xs, rfl, hp, r, _⟩ := asTup o iv rfl
    exact ⟨p, xs, rfl, .inr ⟨hp, kt _ _ F H .refl o iv h⟩⟩
/-! ### abs, int, str of ints -/
def absC : OC := fun M ds q => ∃ i, ds = [.int i] ∧ q (.int (if i < 0 then -i else i))
theorem l_absC : LiftsC X.K absC (fun xs H Q => ∃ i, xs = [.int i] ∧ Q (.int (if i < 0 then -i else i)) H) := fun F M H vs ds q Q o i ⟨j, ed, h⟩ kt => by
  subst ed
  obtain ⟨v, rfl, iv⟩ := isDs1 i
  obtain rfl := isD_int iv
  exact ⟨j, rfl, kt _ _ F H .refl o .int h⟩
def intC : OC := fun M ds q => ∃ d, ds = [d] ∧ match d with
  | .int i => q (.int i)
  | .bl b => q (.int (if b then 1 else 0))
  | _ => False
theorem l_intC : LiftsC X.K intC (fun xs H Q => (∃ i, xs = [.int i] ∧ Q (.int i) H) ∨ ∃ k, xs = [.bl k] ∧ Q (.int (if k then 1 else 0)) H) := fun F M H vs ds q Q o i ⟨d, ed, h⟩ kt => by
  subst ed
  obtain ⟨v, rfl, iv⟩ := isDs1 i
  split at h
  · obtain rfl := isD_int iv
    exact .inl ⟨_, rfl, kt _ _ F H .refl o .int h⟩
  · obtain rfl := isD_bl iv
    exact .inr ⟨_, rfl, kt _ _ F H .refl o .int h⟩
  · exact h.elim
def strIC : OC := fun M ds q => ∃ i : Int, ds = [.int i] ∧ i.natAbs.log2 < 1920 ∧ q (.str (toString i))
theorem l_strIC : LiftsC X.K strIC (fun xs H Q => ∃ i : Int, xs = [.int i] ∧ i.natAbs.log2 < 1920 ∧ Q (.str (toString i)) H) := fun F M H vs ds q Q o i ⟨j, ed, hz, h⟩ kt => by
  subst ed
  obtain ⟨v, rfl, iv⟩ := isDs1 i
  obtain rfl := isD_int iv
  exact ⟨j, rfl, hz, kt _ _ F H .refl o .str h⟩
/-! ### isinstance of a tuple of built-in types -/
def tyNames : List String := ["NoneType", "bool", "int", "str", "tuple", "list", "dict"]
def isT (t n : String) : Bool := t == n || (t == "bool" && n == "int")
theorem kit_all : ∀ t ∈ tyNames, ∀ n ∈ tyNames, kitB t n = some (isT t n) := by decide +kernel
theorem tyD_mem {d : D} {t : String} (h : tyD d = some t) : t ∈ tyNames := by
  cases d <;> cases h <;> decide
/-- isinstance of one built-in type: the answer -/
def isiC' : OC := fun M ds q => ∃ d n t, ds = [d, .ty n] ∧ tyD (view M d) = some t ∧ n ∈ tyNames ∧ q (.bl (isT t n))
theorem l_isi : LiftsC X.K isiC' (rIsi X.K) := fun F M H vs ds q Q o i ⟨d, n, t, ed, et, hn, h⟩ kt =>
  l_isiC F M H vs ds q Q o i ⟨d, n, t, isT t n, ed, et, kit_all t (tyD_mem et) n hn, h⟩ kt
theorem kitAny_all {K : PySem.W.Frag} {t : String} (ht : t ∈ tyNames) : ∀ ns : List String, (∀ n ∈ ns, n ∈ tyNames) → PySem.W.kitAny K (.type t) (ns.map Value.type) = some (ns.any (isT t))
  | [], _ => rfl
  | n :: ns, h => kitAny_cons (kit_ty (kit_all t ht n (h n (by simp)))) (fun e => by
      rw [List.any_cons, e, Bool.false_or]
      exact kitAny_all ht ns fun m hm => h m (by simp [hm])) fun e => by rw [List.any_cons, e, Bool.true_or]
def wIsiT (ns : List String) (w : DE) : DE := fun ρ M x k => w ρ M x fun d M1 => ∃ t, tyD (view M1 d) = some t ∧ k (.bl (ns.any (isT t))) M1
theorem paired_ty : ∀ ns : List String, Paired ClsV (ns.map V.ty) (ns.map Value.type)
  | [] => .nil
  | n :: ns => .cons (.ty n) (paired_ty ns)
theorem xe_isiT {G : XK} {e : Expr} {tys : List Expr} {w : DE} {tt : TA} (ns : List String) {k1 : Nat} {p p2 pos : Pos} (hg : Gl X "isinstance") (hm : X.mg "isinstance" = none) (he : XE X G e w) (ht : PA X tys tt) (hc : ∀ σ H Q, Q (ns.map V.ty) H → tt σ H Q) (hn : ∀ n ∈ ns, n ∈ tyNames) (hz : ns.length ≤ 1000)
    (h1 : starEach [e, .Tuple tys k1 p2] X.env = (false, eval e X.env) :: starEach [.Tuple tys k1 p2] X.env := by rfl) (h2 : starEach [.Tuple tys k1 p2] X.env = (false, eval (.Tuple tys k1 p2) X.env) :: starEach [] X.env := by rfl)
    (hpl : (backTo pos (starEach [.Tuple tys k1 p2] X.env)).any (·.1) = false := by rfl) : XE X G (.Call (.Name "isinstance" p) [e, .Tuple tys k1 p2] [] pos) (wIsiT ns w) :=
  PE.imp (pe_callB call_isiT hg hm (by decide +kernel) (pa_cons he (pa_cons (pe_tup ht) pa_nil h2) h1) (by decide) (by decide) h1 hpl) fun σ H Q ⟨ρ, F, M, x, k, a, q, kt⟩ => ⟨ρ, F, M, x, _, a, q, fun v d F1 M1 H1 g1 o1 i1 ⟨t, et, q1⟩ => hc _ _ _ ⟨by rw [List.length_map]; exact sz5 (by omega), fun z hz => by
    have iz : IsD X.K (upd F1 z (.tup (ns.map V.ty))) v d := i1.mono (Same.upd (o1.noF hz))
    exact ⟨v, z, _, .type t, _, _, rfl, upd_same, paired_ty ns, ty_of (o1.frz hz) iz et, kitAny_all (tyD_mem et) ns hn, kt _ _ _ M1 _ (g1.trans (.frz (o1.noF hz) hz)) (o1.frz hz) .bl q1⟩⟩⟩
end

/-! ### lists that grow, lists that are changed by place -/
section
variable {X : Cx} {G : XK} {o i e : Expr} {wo wi we : DE} {pos pos' apos cpos : Pos}
/-- xs.append(e), xs in the store -/
def wApp (wo we : DE) : DE := fun ρ M x k => wo ρ M x fun d M1 => ∃ p, d = .obj p ∧ (∃ ds0, M1 p = some (.lst ds0)) ∧ we ρ M1 x fun c M2 => ∃ ds, M2 p = some (.lst ds) ∧ ds.length < 100000 ∧ k .non (updM M2 p (.lst (ds ++ [c])))
theorem xe_append (ho : XE X G o wo) (he : XE X G e we)
    (hbase : attributeBase o "append" X.env (eval o X.env) = eval o X.env := by rfl)
    (hfew : ((backTo cpos (starEach [e] X.env)).all (fun x => !x.1) && (backToKw cpos (keywordEach [] X.env)).all (fun x => x.1.isSome)
      && decide (([e] : List Expr).length + ([] : List Keyword).length + (if ([] : List Keyword).isEmpty then 0 else 1) < 30)) = true := by rfl)
    (hline : (apos.endLine == cpos.line) = true := by rfl) (hs : starEach [e] X.env = (false, eval e X.env) :: starEach [] X.env := by rfl) :
    XE X G (.Call (.Attribute o "append" apos) [e] [] cpos) (wApp wo we) :=
  PE.imp (pe_bm PySem.F.plainAttrs_list PySem.F.slot_list_append PySem.F.type_list_append mt_append ho (pa_cons he pa_nil hs) hbase hfew hline hs (by rfl)) fun σ H Q ⟨ρ, F, M, x, k, a, q, kt⟩ => ⟨ρ, F, M, x, _, a, q, fun v d F1 M1 H1 g1 o1 i1 ⟨p, ed, ⟨ds0, em0⟩, q1⟩ => by
    subst ed
    cases i1
    obtain ⟨_, ob, hp0, mo0⟩ := o1.mu p _ em0
    cases mo0 with
    | lst r0 =>
      refine ⟨.inl ⟨rfl, _, .of hp0⟩, ρ, F1, M1, x, _, a.step g1 o1, q1, fun u c F2 M2 H2 g2 o2 i2 ⟨ds, em, hl, q2⟩ => ?_⟩
      obtain ⟨nf, ob, hp, mo⟩ := o2.mu p _ em
      cases mo with
      | lst r => exact ⟨p, _, u, rfl, rfl, hp, by rw [r.len]; exact Nat.lt_of_lt_of_le hl (by decide), kt _ _ F2 _ _ ((g1.trans g2).trans (Gr.put em)) (o2.put nf (.lst (r.app (.cons i2 .nil))) (o2.mS em)) .non q2⟩⟩
/-- xs[i] = e, xs in the store -/
def wSetI (wo wi we : DE) : DS := fun E ρ M x => we ρ M x fun c M1 => wo ρ M1 x fun d M2 => wi ρ M2 x fun e M3 => ∃ p ds k j, d = .obj p ∧ M3 p = some (.lst ds) ∧ e = .int k ∧ ixN ds.length k = some j ∧ E.nx ρ (updM M3 p (.lst (ds.set j c)))
theorem ys_seti (he : XE X G e we) (ho : XE X G o wo) (hi : XE X G i wi)
    (ha : ∀ v, assign (.Subscript o i pos') X.env v = (do
      let ov ← holding [v] (eval o X.env)
      let iv ← holding [v, ov] (eval i X.env)
      standAt pos'
      holding [v, ov, iv] (setItem ov iv v)
      release [v, ov, iv] []) := by intro _; rfl)
    (hs : swapsWithSole [.Subscript o i pos'] e pos.line X.env = pure false := by rfl) (hw : swappedStores [.Subscript o i pos'] e X.env = pure none := by rfl)
    (h1 : (assignEach [.Subscript o i pos'] X.env).map (·.2) = [assign (.Subscript o i pos') X.env] := by rfl) : YS X G (.Assign [.Subscript o i pos'] e pos) (wSetI wo wi we) :=
  PS.imp (ps_asg he (pg_sub ho hi set_list ha) hs hw h1) fun D σ H ⟨ρ, F, M, x, E, a, q, et⟩ => ⟨ρ, F, M, x, _, a, q, fun v c F1 M1 H1 g1 o1 i1 q1 => ⟨ρ, F1, M1, x, _, a.step g1 o1, q1, fun u d F2 M2 H2 g2 o2 i2 q2 => ⟨ρ, F2, M2, x, _, a.step (g1.trans g2) o2, q2, fun y e F3 M3 H3 g3 o3 i3 ⟨p, ds, k, j, ed, em, ee, ej, q3⟩ => by
    subst ed ee
    cases i2
    obtain rfl := isD_int i3
    obtain ⟨nf, ob, hp, mo⟩ := o3.mu p _ em
    cases mo with
    | lst r =>
      have gg := ((g1.trans g2).trans g3)
      exact ⟨p, _, k, j, rfl, rfl, hp, by rw [r.len]; exact ej, et.nx σ ρ F3 _ _ (gg.trans (Gr.put em)) (o3.put nf (.lst (r.set (i1.mono (g2.trans g3).ex) j)) (o3.mS em)) (a.env.mono gg.ex) q3⟩⟩⟩⟩
/-- xs[::-1] -/
def wRev (w : DE) : DA := fun ρ M x k => w ρ M x fun d M1 => ∃ ds, view M1 d = .lst ds ∧ k ds.reverse M1
theorem xl_rev {k : Nat} {p1 p2 p3 pos : Pos} (he : XE X G e we) : XL X G (.Subscript e (.Slice none none (some (.UnaryOp .USub (.Constant (.int 1) k p1) p2)) p3) pos) (wRev we) :=
  PE.imp (pe_revL he) fun σ H Q ⟨ρ, F, M, x, k, a, q, kt⟩ => ⟨ρ, F, M, x, _, a, q, fun v d F1 M1 H1 g1 o1 i1 ⟨ds, ev, q1⟩ => by
    obtain ⟨p, xs, ep, hp, r⟩ := asLst o1 i1 ev
    exact ⟨p, xs, ep, .of hp, fun z hz => kt z _ _ F1 M1 _ (g1.trans (.newU hz)) (o1.newU hz) (fresh0 g1 hz) upd_same (o1.noF hz) (o1.noM hz) r.rev q1⟩⟩
/-! ### is, of truths -/
def isBD : OD := fun M d e q => ∃ a b, d = .bl a ∧ e = .bl b ∧ q (.bl (decide (a = b)))
theorem l_isBD : Lifts X.K isBD rIsB := fun F M H v u d e q Q o i1 i2 ⟨a, b, e1, e2, h⟩ kt => by
  subst e1 e2
  exact ⟨a, b, isD_bl i1, isD_bl i2, kt _ _ F H .refl o .bl h⟩
/-! ### texts joined, counted -/
def joinM : OM := fun M d ds q => ∃ a e ys, d = .str a ∧ ds = [e] ∧ (view M e = .lst (ys.map D.str) ∨ e = .tup (ys.map D.str)) ∧ (ys.map (·.length)).sum + ys.length * a.length ≤ 1000000 ∧ q (.str (Txt.join a ys))
theorem strs_v {K : PySem.W.Frag} {F : Hp} : ∀ {xs : List V} {bs : List Str}, IsDs K F xs (bs.map D.str) → xs = bs.map V.str
  | _, [], .nil => rfl
  | _, b :: bs, .cons i r => by rw [isD_str i, strs_v r]; rfl
theorem l_joinM : LiftsM X.K "str" joinM (fun x xs H Q => ∃ a p, ∃ ys : List Str, x = .str a ∧ xs = [.ref p] ∧ (SqL X.K H p (ys.map V.str) ∨ SqT X.K H p (ys.map V.str)) ∧ (ys.map (·.length)).sum + ys.length * a.length ≤ 16777216 ∧ Q (.str (Txt.join a ys)) H) :=
  fun F M H v d vs ds q Q o i1 i2 ⟨a, e, ys, ed, es, ev, hz, h⟩ kt => by
  subst ed es
  obtain rfl := isD_str i1
  obtain ⟨u, rfl, iu⟩ := isDs1 i2
  rcases ev with ev | ev
  · obtain ⟨p, xs, rfl, hp, r⟩ := asLst o iu ev
    obtain rfl := strs_v r
    exact ⟨a, p, ys, rfl, rfl, .inl (.of hp), Nat.le_trans hz (by decide), kt _ _ F H .refl o .str h⟩
  · subst ev
    obtain ⟨p, xs, rfl, hp, r, _⟩ := asTup o iu rfl
    obtain rfl := strs_v r
    exact ⟨a, p, ys, rfl, rfl, .inr hp, Nat.le_trans hz (by decide), kt _ _ F H .refl o .str h⟩
def countM : OM := fun M d ds q => ∃ a b, d = .str a ∧ ds = [.str b] ∧ q (.int (Txt.count a b))
theorem l_countM : LiftsM X.K "str" countM (fun x xs H Q => ∃ a b, x = .str a ∧ xs = [.str b] ∧ Q (.int (Txt.count a b)) H) := fun F M H v d vs ds q Q o i1 i2 ⟨a, b, ed, es, h⟩ kt => by
  subst ed es
  obtain rfl := isD_str i1
  obtain ⟨u, rfl, iu⟩ := isDs1 i2
  obtain rfl := isD_str iu
  exact ⟨a, b, rfl, rfl, kt _ _ F H .refl o .int h⟩
end
end TV

set_option Elab.async false
set_option linter.all false
set_option maxRecDepth 100000
set_option maxHeartbeats 1000000
namespace TV
open PySem PySem.Spec PyProof.Rows L2
section
variable {X : Cx} {G : XK} {pos : Pos}
/-- a list made is stored as a thing of the store, as a list that stays -/
theorem setL_mut {w : DA} {i : Nat} {D : Ends} {σ : L2.St} {H : Hp} (h : rS X.K G (wSet i (wMut w)) D σ H) : rL X.K G w σ H fun v H1 => gName i v σ H1 D.nx := by
  obtain ⟨ρ, F, M, x, E, a, q, et⟩ := h
  exact ⟨ρ, F, M, x, _, a, q, fun p vs ds F1 M1 H1 g1 o1 hp e1 f1 m1 i1 q1 => et.nx _ _ F1 _ H1 (g1.adoptM hp) (o1.takeM e1 f1 (.lst i1) (a.heap.noS hp)) ((a.env.mono g1.ex).set i .obj) (q1 p m1)⟩
theorem setL_frz {w : DA} {i : Nat} {D : Ends} {σ : L2.St} {H : Hp} (h : rS X.K G (wSet i (wFrz w)) D σ H) : rL X.K G w σ H fun v H1 => gName i v σ H1 D.nx := by
  obtain ⟨ρ, F, M, x, E, a, q, et⟩ := h
  exact ⟨ρ, F, M, x, _, a, q, fun p vs ds F1 M1 H1 g1 o1 hp e1 f1 m1 i1 q1 => et.nx _ _ (upd F1 p (.lst vs)) _ H1 (g1.adopt hp f1) (o1.take e1 f1 m1 (a.heap.noS hp)) (((a.env.mono g1.ex).mono (Same.upd f1)).set i (.lst upd_same (i1.mono (Same.upd f1)))) q1⟩
section
variable {i : Nat} {y : Str} {py : Pos} {elt tg iter : Expr} {ifs : List Expr} {scope : Scope} {own : List (Str × Nat)} {spos : Pos} {wi : DI} {g : TG} {gd : DG} {tt : DT} {te : DE}
theorem ys_setLcM (hc : X.calm = true) (hN : X.N.Nodup) (hy : X.N[i]? = some y) (hyl : X.env.scope.names.lookup y = some .local)
    (hsw : swapsWith (.ListComp elt [⟨tg, iter, ifs, 0⟩] scope pos) (some (.Name y py)) spos.line X.env = pure true) (hi : XI X G tg iter wi) (ok : BlkOk X.N X.env.scope scope own) (ht : TgOk X.K g gd (own.map (·.2)))
    (hg : ∀ (s : Shared) (H : Hp) (C : Addr) (cl : List (Str × Addr)) (fp : List Addr), PG (X.blk s H scope (compEnvC scope cl C X.env) fp) tg g)
    (htt : ∀ (s : Shared) (H : Hp) (C : Addr) (cl : List (Str × Addr)) (fp : List Addr), PTs (X.blk s H scope (compEnvC scope cl C X.env) fp) ifs (rT X.K G tt))
    (he : ∀ (s : Shared) (H : Hp) (C : Addr) (cl : List (Str × Addr)) (fp : List Addr), PE (X.blk s H scope (compEnvC scope cl C X.env) fp) elt (rE X.K G te))
    (hs : ∀ x, foldedSetIterable iter X.env x = pure x := by intro _; rfl) : YS X G (.Assign [.Name y py] (.ListComp elt [⟨tg, iter, ifs, 0⟩] scope pos) spos) (wSet i (wMut (wLc wi gd tt te (own.map (·.2))))) :=
  PS.imp (ps_setLc hc hN hy hyl hsw hi ok hg htt he hs) fun D σ H h => lc_of ht (setL_mut h)
theorem ys_setLcF (hc : X.calm = true) (hN : X.N.Nodup) (hy : X.N[i]? = some y) (hyl : X.env.scope.names.lookup y = some .local)
    (hsw : swapsWith (.ListComp elt [⟨tg, iter, ifs, 0⟩] scope pos) (some (.Name y py)) spos.line X.env = pure true) (hi : XI X G tg iter wi) (ok : BlkOk X.N X.env.scope scope own) (ht : TgOk X.K g gd (own.map (·.2)))
    (hg : ∀ (s : Shared) (H : Hp) (C : Addr) (cl : List (Str × Addr)) (fp : List Addr), PG (X.blk s H scope (compEnvC scope cl C X.env) fp) tg g)
    (htt : ∀ (s : Shared) (H : Hp) (C : Addr) (cl : List (Str × Addr)) (fp : List Addr), PTs (X.blk s H scope (compEnvC scope cl C X.env) fp) ifs (rT X.K G tt))
    (he : ∀ (s : Shared) (H : Hp) (C : Addr) (cl : List (Str × Addr)) (fp : List Addr), PE (X.blk s H scope (compEnvC scope cl C X.env) fp) elt (rE X.K G te))
    (hs : ∀ x, foldedSetIterable iter X.env x = pure x := by intro _; rfl) : YS X G (.Assign [.Name y py] (.ListComp elt [⟨tg, iter, ifs, 0⟩] scope pos) spos) (wSet i (wFrz (wLc wi gd tt te (own.map (·.2))))) :=
  PS.imp (ps_setLc hc hN hy hyl hsw hi ok hg htt he hs) fun D σ H h => lc_of ht (setL_frz h)
end
/-- x is None -/
def isNF (d : D) : Bool := match d with
  | .non => true
  | _ => false
theorem isN_v {K : PySem.W.Frag} {F : Hp} {v : V} {d : D} (h : IsD K F v d) : decide (v = .non) = isNF d := by
  cases h <;> first | rfl | (simp [isNF])
def isND : OD := fun _ d e q => e = .non ∧ q (.bl (isNF d))
def notND : OD := fun _ d e q => e = .non ∧ q (.bl (!isNF d))
theorem l_isND : Lifts X.K isND (fun x y H Q => y = .non ∧ Q (.bl (decide (x = .non))) H) := fun F M H v u d e q Q o i1 i2 ⟨e1, h⟩ kt => by
  subst e1
  cases i2
  exact ⟨rfl, by rw [isN_v i1]; exact kt _ _ F H .refl o .bl h⟩
theorem l_notND : Lifts X.K notND (fun x y H Q => y = .non ∧ Q (.bl (!decide (x = .non))) H) := fun F M H v u d e q Q o i1 i2 ⟨e1, h⟩ kt => by
  subst e1
  cases i2
  exact ⟨rfl, by rw [isN_v i1]; exact kt _ _ F H .refl o .bl h⟩
/-- for i, x in enumerate(xs) over a list, over a text: pairs -/
def pairsN (n : Nat) : List D → List D
  | [] => []
  | d :: ds => .tup [.int n, d] :: pairsN (n + 1) ds
theorem pairsN_len : ∀ (n : Nat) (ds : List D), (pairsN n ds).length = ds.length
  | _, [] => rfl
  | n, _ :: ds => congrArg (· + 1) (pairsN_len (n + 1) ds)
theorem pairsN_get : ∀ (n : Nat) (ds : List D) (i : Nat) (d : D), ds[i]? = some d → (pairsN n ds)[i]? = some (.tup [.int ((n + i : Nat) : Int), d])
  | _, [], _, _, e => by simp at e
  | n, c :: ds, 0, d, e => by
    simp at e; subst e
    simp [pairsN]
  | n, c :: ds, i + 1, d, e => by
    have := pairsN_get (n + 1) ds i d (by simpa using e)
    show (pairsN (n + 1) ds)[i]? = _
    rw [this, show n + 1 + i = n + (i + 1) by omega]
theorem walks_enum {K : PySem.W.Frag} {F0 : Hp} {a : Addr} {ds : List D} {stay : MS → Prop} (h : ∀ F M H, Same F0 F → HeapOk K F M H → stay M → ∃ xs, SqL K H a xs ∧ IsDs K F xs ds) : Walks K (Ite K a) (pairsN 0 ds) stay F0 where
  go := fun i F M H e o s hi => by
    rw [pairsN_len] at hi
    obtain ⟨xs, q, r⟩ := h F M H e o s
    exact ⟨xs, xs[i]'(by rw [r.len]; exact hi), q, by simp [r.len, hi]⟩
  stop := fun F M H e o s => by
    obtain ⟨xs, q, r⟩ := h F M H e o s
    exact ⟨xs, q, by rw [pairsN_len, r.len]; exact Nat.le_refl _⟩
  yld := fun i F M H x H' e o s hi y => by
    obtain ⟨xs, q, r⟩ := h F M H e o s
    obtain ⟨T, x', rfl, nT, rfl, y⟩ := y
    obtain ⟨d, ed, hd⟩ := r.getV i (y xs q)
    refine ⟨upd F T (.tup [.int (i : Nat), x']), _, .frz (o.noF nT) nT, o.frz nT, .tup (.of upd_same) (.cons .int (.cons (hd.mono (Same.upd (o.noF nT))) .nil)), ?_⟩
    rw [pairsN_get 0 ds i d ed, Nat.zero_add]
def wiEnum (w : DA) : DI := fun ρ M x k => w ρ M x fun ds M1 => ∃ d es, ds = [d] ∧ view M1 d = .lst es ∧ k (pairsN 0 es) (fun M2 => view M2 d = .lst es) M1
theorem xi_enum {e : Expr} {elts : List Expr} {kk : Nat} {tpos p : Pos} {w : DA} (hg : Gl X "enumerate") (hm : X.mg "enumerate" = none) (ha : XA X G [e] w) (hs : starEach [e] X.env = [(false, eval e X.env)] := by rfl) : XI X G (.Tuple elts kk tpos) (.Call (.Name "enumerate" p) [e] [] pos) (wiEnum w) :=
  PI.imp (pi_enum hg hm ha hs) fun σ H R ⟨ρ, F, M, x, k, a, q, kt⟩ => ⟨ρ, F, M, x, _, a, q, fun vs ds F1 M1 H1 g1 o1 i1 ⟨d, es, ed, ev, q1⟩ => by
    subst ed
    obtain ⟨v, rfl, iv⟩ := isDs1 i1
    obtain ⟨p, xs, rfl, hp, r⟩ := asLst o1 iv ev
    exact ⟨p, xs, rfl, .of hp, kt _ _ _ F1 M1 H1 g1 o1 (walks_enum fun F M H e' o' st => by
      obtain ⟨p', xs', ep, s', r'⟩ := asLst o' (iv.mono e') st
      cases ep
      exact ⟨xs', .of s', r'⟩) q1⟩⟩
end
end TV

set_option Elab.async false
set_option linter.all false
set_option maxRecDepth 100000
set_option maxHeartbeats 1000000
namespace TV
open PySem PySem.Spec PyProof.Rows L2

/-! ### enumerate of a text -/
def Ites (x : Str) : It :=
  ⟨fun i _ => i < x.cps.size, fun i H v H' => ∃ T c, v = .ref T ∧ H T = none ∧ x.cps[i]? = some c ∧ H' = upd H T (.tup [.int (i : Nat), .str ⟨#[c]⟩]), fun i _ => i = x.cps.size⟩
theorem draws_str {prog : Program} {w : World} {A : Around} (hh : A.handled = none) (it : Addr) (x : Str) (t : Tok) :
    Draws prog w A it [it] x.cps.size (fun i v => ∃ c u, x.cps[i]? = some c ∧ v = .str ⟨#[c]⟩ u) (fun i h => h.IsStrIter it (strIterType x) x t i) := by
  unfold strIterType
  cases h : x.cps.all (· < 128)
  · rw [if_neg (by simp)]; exact Draws.strWide hh it x t
  · rw [if_pos rfl]; exact Draws.strAscii hh it x t
theorem turn_enumS {P : Program} {w : World} {K : PySem.W.Frag} {elts : List Expr} {kk : Nat} {tpos : Pos} (x : Str) (t : Tok) (e it : Addr) :
    Turn P w K (.Tuple elts kk tpos) (Ites x) [e, it] e (fun i h => (∃ old, IsEnum h e it ((i : Nat) : Int) old) ∧ h.IsStrIter it (strIterType x) x t i ∧ e ≠ it) where
  mem := by simp
  obj := fun i h st b hb => by
    obtain ⟨⟨old, he⟩, ⟨o, ho, hc, hd⟩, _⟩ := st
    rcases (show b = e ∨ b = it by simpa using hb) with rfl | rfl
    · exact ⟨_, he, fun v q => nomatch q⟩
    · exact ⟨o, ho, fun v q => by rw [hd] at q; cases q⟩
  keep := fun i h h' st k => let ⟨⟨old, he⟩, ⟨o, ho, r⟩, hne⟩ := st; ⟨⟨old, k e (by simp) _ he⟩, ⟨o, k it (by simp) o ho, r⟩, hne⟩
  item := by
    intro X hP hw hK hc i pins s σ H E I hf st hg
    subst hP hw hK
    obtain ⟨⟨old, he⟩, hit, hne⟩ := st
    have lt1 : e < s.heap.objs.size := Heap.lt_size he
    have lt2 : it < s.heap.objs.size := by obtain ⟨_, q, _⟩ := hit; exact Heap.lt_size q
    refine wpAny_pyNext_enum_itemD (draws_str (A := X.A.in1) (by show X.A.handled = none; exact I.ok.hd hc) it x t) he hit hg hne (by simp [hne]) fun y h' tk hP ho hit' hT hsz hk => ?_
    obtain ⟨c, u, ec, rfl⟩ := hP
    refine ⟨_, rfl, wpAny_letOwnedTupleGo_enum (s := { s with heap := h', toks := tk + 1 }) ho fun h'' he' sb => ?_⟩
    have made : h''.get? s.heap.objs.size = some { cls := .type "tuple", data := .seq #[.int i tk, .str ⟨#[c]⟩ u] } := (sb.2 _ (Nat.ne_of_gt lt1)).trans hT
    have new : ObjOk X.prog X.w (upd H s.heap.objs.size (.tup [.int (i : Nat), .str ⟨#[c]⟩])) h'' s.heap.objs.size (.tup [.int (i : Nat), .str ⟨#[c]⟩]) :=
      ⟨by show 2 ≤ sizeLine; decide, [.int i tk, .str ⟨#[c]⟩ u], .cons ⟨_, rfl⟩ (.cons ⟨_, rfl⟩ .nil), ⟨_, made, rfl, _, rfl⟩⟩
    have I1 : L2.Inv X pins σ (upd H s.heap.objs.size (.tup [.int (i : Nat), .str ⟨#[c]⟩])) { s with heap := h'', toks := tk + 1 } :=
      I.turnedNew (ch := [e, it]) (fun b ob hb q => (sb.2 b (fun z => hb (by simp [z]))).trans (hk b ob (fun z => hb (by simp [z])) (fun z => hb (by simp [z])) q)) hf (Nat.le_refl _) new
    refine ⟨.ref s.heap.objs.size, _, I1, rfl, ⟨_, c, rfl, I.hok.fresh (Nat.le_refl _), ec, rfl⟩, ⟨⟨.str ⟨#[c]⟩ u, ?_⟩, ?_, hne⟩, fun b hb => ?_⟩
    · have e1 : ((i + 1 : Nat) : Int) = (i : Int) + 1 := by omega
      rw [e1]; exact he'
    · obtain ⟨o, q1, q2⟩ := hit'
      exact ⟨o, (sb.2 it (Ne.symm hne)).trans q1, q2⟩
    · have hb' : b < s.heap.objs.size := by
        rcases (show b = e ∨ b = it by simpa using hb) with rfl | rfl
        · exact lt1
        · exact lt2
      rw [upd_ne (Nat.ne_of_lt hb')]
      exact (hf b hb).1
  done := by
    intro X hP hw hK hc i pins s σ H E I hf st hg
    subst hP hw hK
    obtain ⟨⟨old, he⟩, hit, hne⟩ := st
    obtain ⟨f0, f1, f2, f3, f4, f5⟩ := hf it (by simp)
    obtain rfl : i = x.cps.size := hg
    exact wpAny_pyNext_enum_endD (draws_str (A := X.A.in1) (by show X.A.handled = none; exact I.ok.hd hc) it x t) he hit fun h' eb => ⟨rfl, I.turned (t' := s.toks) (fun b o hb q => eb b o hb q) f0 f1 f3 f4 f5⟩
  self := fun A i s Q E st h => let ⟨⟨_, he⟩, _⟩ := st; wpAny_pyIter_enum he h
def iEnumS (ta : TA) : TI := fun σ H R => ta σ H fun vs H1 => ∃ x, vs = [.str x] ∧ R (Ites x) H1
theorem pi_enumS {X : Cx} {e : Expr} {ta : TA} {p pos tpos : Pos} {elts : List Expr} {kk : Nat} (hg : Gl X "enumerate") (hm : X.mg "enumerate" = none) (ha : PA X [e] ta) (hs : starEach [e] X.env = [(false, eval e X.env)] := by rfl) :
    PI X (.Tuple elts kk tpos) (.Call (.Name "enumerate" p) [e] [] pos) (iEnumS ta) := by
  refine ⟨fun pins s σ H R I h => Call_ (ld_blt I hg hm boot_enumerate (PyProof.Rows.callWith_type1 (thn (ha.run pos pins s σ H _ I h) fun us s1 ⟨vs, H1, I1, r1, q1⟩ => ?_) hs rfl))⟩
  obtain ⟨x, ex, q⟩ := q1
  subst ex
  obtain ⟨u, rfl, t, rfl⟩ := vals1 r1
  refine call_enumerate_str fun h' he hit hsz hk => wpAny_pyIter_enum he ?_
  have I2 : L2.Inv X pins σ H1 { s1 with heap := h' } := I1.kept (t' := s1.toks) hk
  refine ⟨s1.heap.objs.size + 1, [s1.heap.objs.size + 1, s1.heap.objs.size], _, _, H1, rfl, I2, turn_enumS x t (s1.heap.objs.size + 1) s1.heap.objs.size, ⟨⟨.none, he⟩, hit, Nat.succ_ne_self _⟩, fun b hb => ?_, q⟩
  have hle : s1.heap.objs.size ≤ b := by
    rcases (show b = s1.heap.objs.size + 1 ∨ b = s1.heap.objs.size by simpa using hb) with rfl | rfl
    · exact Nat.le_add_right _ _
    · exact Nat.le_refl _
  exact I1.fpOk hle (I1.hok.fresh hle)
theorem walks_enumS {K : PySem.W.Frag} {F0 : Hp} {x : Str} {stay : MS → Prop} : Walks K (Ites x) (pairsN 0 (signs x)) stay F0 where
  go := fun i F M H e o s hi => by simpa [pairsN_len, signs, Ites] using hi
  stop := fun F M H e o s => by simp [pairsN_len, signs, Ites]
  yld := fun i F M H v H' e o s hi y => by
    obtain ⟨T, c, rfl, nT, ec, rfl⟩ := y
    have eg : (signs x)[i]? = some (.str ⟨#[c]⟩) := by
      unfold signs
      rw [List.getElem?_map, Array.getElem?_toList, ec]; rfl
    refine ⟨upd F T _, _, .frz (o.noF nT) nT, o.frz nT, .tup (.of upd_same) (.cons .int (.cons .str .nil)), ?_⟩
    rw [pairsN_get 0 (signs x) i _ eg, Nat.zero_add]
def wiEnumS (w : DA) : DI := fun ρ M x k => w ρ M x fun ds M1 => ∃ z, ds = [.str z] ∧ k (pairsN 0 (signs z)) (fun _ => True) M1
theorem xi_enumS {X : Cx} {G : XK} {e : Expr} {elts : List Expr} {kk : Nat} {tpos p pos : Pos} {w : DA} (hg : Gl X "enumerate") (hm : X.mg "enumerate" = none) (ha : XA X G [e] w) (hs : starEach [e] X.env = [(false, eval e X.env)] := by rfl) : XI X G (.Tuple elts kk tpos) (.Call (.Name "enumerate" p) [e] [] pos) (wiEnumS w) :=
  PI.imp (pi_enumS hg hm ha hs) fun σ H R ⟨ρ, F, M, x, k, a, q, kt⟩ => ⟨ρ, F, M, x, _, a, q, fun vs ds F1 M1 H1 g1 o1 i1 ⟨z, ed, q1⟩ => by
    subst ed
    obtain ⟨v, rfl, iv⟩ := isDs1 i1
    obtain rfl := isD_str iv
    exact ⟨z, rfl, kt _ _ _ F1 M1 H1 g1 o1 walks_enumS q1⟩⟩
theorem l_ninSD {X : Cx} : Lifts X.K ninSD (fun x y H Q => ∃ (c : Nat) (z : Str), x = .str ⟨#[c]⟩ ∧ y = .str z ∧ Q (.bl (!decide (c ∈ z.cps.toList))) H) := fun F M H v u d e q Q o i1 i2 ⟨c, z, e1, e2, h⟩ kt => by
  subst e1 e2
  exact ⟨c, z, isD_str i1, isD_str i2, kt _ _ F H .refl o .bl h⟩
/-- a, b, c = x, y, z with plain local names -/
def wPar3 (i j l : Nat) (wa : DA) : DS := fun E ρ M x => wa ρ M x fun ds M1 => ∃ d e f, ds = [d, e, f] ∧ E.nx (((ρ.set i (some d)).set j (some e)).set l (some f)) M1
theorem ys_par3 {X : Cx} {G : XK} {pos : Pos} {i j l : Nat} {x y z : Str} {a b c : Expr} {wa : DA} {px py pz pt : Pos} {kt k2 pt2} (hc : X.calm = true) (hN : X.N.Nodup) (hi : X.N[i]? = some x) (hj : X.N[j]? = some y) (hl : X.N[l]? = some z) (hij : i ≠ j) (hil : i ≠ l) (hjl : j ≠ l)
    (hx : X.env.scope.names.lookup x = some .local) (hy : X.env.scope.names.lookup y = some .local) (hz : X.env.scope.names.lookup z = some .local) (ha : XA X G [a, b, c] wa)
    (hw : swappedStores [.Tuple [.Name x px, .Name y py, .Name z pz] kt pt] (.Tuple [a, b, c] k2 pt2) X.env = pure (some [x, y, z]))
    (hs : swapsWithSole [.Tuple [.Name x px, .Name y py, .Name z pz] kt pt] (.Tuple [a, b, c] k2 pt2) pos.line X.env = pure false := by rfl) :
    YS X G (.Assign [.Tuple [.Name x px, .Name y py, .Name z pz] kt pt] (.Tuple [a, b, c] k2 pt2) pos) (wPar3 i j l wa) :=
  PS.imp (ps_par3 hc hN hi hj hl hij hil hjl hx hy hz ha hw hs) fun D σ H ⟨ρ, F, M, x, E, a, q, et⟩ => ⟨ρ, F, M, x, _, a, q, fun vs ds F1 M1 H1 g1 o1 i1 ⟨d, e, f, hd, q1⟩ => by
    subst hd
    cases i1 with
    | cons h1 i1 =>
      obtain ⟨v2, v3, rfl, h2, h3⟩ := isDs2 i1
      exact ⟨_, _, _, rfl, et.nx _ _ F1 M1 H1 g1 o1 ((((a.env.mono g1.ex).set i h1).set j h2).set l h3) q1⟩⟩
/-- code that the proof never comes to -/
def wNever : DS := fun _ _ _ _ => False
theorem ys_never {X : Cx} {G : XK} {st : Stmt} : YS X G st wNever := PS.imp ps_never fun D σ H ⟨_, _, _, _, _, _, q, _⟩ => q.elim
theorem yss_never {X : Cx} {G : XK} {st : List Stmt} : YSs X G st wNever := PSs.imp pss_never fun D σ H ⟨_, _, _, _, _, _, q, _⟩ => q.elim
end TV

set_option Elab.async false
set_option linter.all false
set_option maxRecDepth 100000
set_option maxHeartbeats 1000000
/-! Dicts written that nobody changes. -/
namespace TV
open PySem PySem.Spec PyProof.Rows L2
section
variable {X : Cx} {G : XK} {pos : Pos}
def wDictF (l : List (Str × DE)) : DE := fun ρ M x k => wPairs l ρ M x fun es M1 => k (.dct (dictOf es)) M1
theorem xe_dictF {keys : List (Option Expr)} {values : List Expr} {l : List (Str × DE)} (h : PPs X pos keys values (trs X.K G l)) (hall : keys.all (·.isSome) = true) (hl : keys.length = values.length) (h0 : keys ≠ []) (h15 : keys.length ≤ 15) (hk : l.length ≤ 15) : XE X G (.Dict keys values pos) (wDictF l) :=
  PE.imp (pe_disp h hall hl h0 h15) fun σ H Q ⟨ρ, F, M, x, k, a, q, kt⟩ p hp => by
    have a1 : At X.K G σ ρ F M (upd H p (.dK [])) x := ⟨a.env, a.heap.newU hp, a.xok.step (Gr.newU hp)⟩
    refine pairs_of l a1 q fun kvs es F1 M1 H1 g1 o1 i1 hlen q1 => ?_
    have e1 : H1 p = some (.dK []) := g1.fr p _ upd_same (a.heap.noF hp) (a.heap.noM hp)
    have f1 : F1 p = none := g1.keepF upd_same (a.heap.noF hp) (a.heap.noM hp)
    have m1 : M1 p = none := g1.keepM upd_same (a.heap.noM hp)
    have ns := a.heap.noS hp
    refine ⟨e1, kvs, rfl, by rw [hlen]; exact hk, kt _ _ (upd F1 p (.dK (mergeK [] kvs))) M1 _ ?_ ((o1.setU f1 m1 ns).take upd_same f1 m1 ns) (.dct upd_same ((merge_v i1 .nil).mono (Same.upd f1))) q1⟩
    exact (((Gr.newU hp).trans g1).setU hp).adopt hp f1
def wDict0F : DE := fun ρ M x k => k (.dct []) M
theorem xe_dict0F : XE X G (.Dict [] [] pos) wDict0F :=
  PE.imp pe_dnewK fun σ H Q ⟨ρ, F, M, x, k, a, q, kt⟩ p hp =>
    kt _ _ (upd F p (.dK [])) M _ (.frz (a.heap.noF hp) hp) (a.heap.frz hp) (.dct upd_same .nil) q
end

/-! ### a row of things, kept and turned -/
def fmD {α β : Type} (keep : α → Bool) (val : α → β) (l : List α) : List β := (l.filter keep).map val
theorem fm_step {α β : Type} {keep : α → Bool} {val : α → β} {l : List α} {i : Nat} {d : α} (h : l[i]? = some d) : fmD keep val (l.take (i + 1)) = fmD keep val (l.take i) ++ (if keep d then [val d] else []) := by
  unfold fmD
  rw [List.take_add_one, h, List.filter_append, List.map_append]
  cases e : keep d <;> simp [List.filter, e]
theorem ty_view {M : MS} {d : D} {t : String} (h : tyD d = some t) : view M d = d := by
  cases d <;> first | rfl | (simp [tyD] at h)
end TV

set_option Elab.async false
set_option linter.all false
set_option maxRecDepth 100000
set_option maxHeartbeats 1000000
/-! How long a picture is. -/
namespace TV
open PySem PySem.Spec PyProof.Rows L2
theorem reprChar_le : ∀ q ∈ [34, 39], ∀ c < 256, (Builtin.Str.reprChar q c).length ≤ 4 := by decide +kernel
theorem quote_in (s : Str) : reprQuote s ∈ [34, 39] := by
  unfold reprQuote
  split <;> simp
def lat (s : Str) : Prop := ∀ c ∈ s.cps.toList, c < 256
theorem shownS_len {s : Str} (h : lat s) : (PyData.str s).shown.length ≤ 4 * s.length + 2 := by
  rw [PyData.shown.eq_4]
  have key : ∀ (l : List Nat) (a : Array Nat), (∀ c ∈ l, c < 256) → (l.foldl (fun out c => out ++ (Builtin.Str.reprChar (reprQuote s) c).toArray) a).size ≤ a.size + 4 * l.length := by
    intro l
    induction l with
    | nil => intro a _; simp
    | cons c l ih =>
      intro a ha
      rw [List.foldl_cons]
      have h1 := ih (a ++ (Builtin.Str.reprChar (reprQuote s) c).toArray) fun c hc => ha c (List.mem_cons_of_mem _ hc)
      have h2 := reprChar_le _ (quote_in s) c (ha c List.mem_cons_self)
      simp only [Array.size_append, List.size_toArray, List.length_cons] at h1 ⊢
      omega
  have k2 := key s.cps.toList #[reprQuote s] h
  show (reprText s).cps.size ≤ 4 * s.cps.size + 2
  unfold reprText
  simp only [Array.size_push, ← Array.foldl_toList]
  simp only [Array.length_toList] at k2
  have : (#[reprQuote s] : Array Nat).size = 1 := rfl
  omega
theorem len_app (a b : Str) : (a ++ b).length = a.length + b.length := by
  show (a.cps ++ b.cps).size = a.cps.size + b.cps.size
  exact Array.size_append
theorem shownL1_len {p : PyData} : (PyData.list [p]).shown.length = p.shown.length + 2 := by
  rw [PyData.shown.eq_5, PyData.shownAll.eq_2, PyData.shownAll.eq_1]
  show (textFrom 0 (Str.ofString "[") [p.shown] ++ Str.ofString "]").length = _
  rw [textFrom.eq_2, textFrom.eq_1, len_app, len_app, len_app]
  have e1 : (Str.ofString "[").length = 1 := by decide +kernel
  have e2 : (Str.ofString "]").length = 1 := by decide +kernel
  have e3 : (Str.ofString (if 0 > 0 then ", " else "")).length = 0 := by decide +kernel
  rw [e1, e2, e3]; omega
theorem signs_get {z : Str} {i : Nat} {d : D} (h : (signs z)[i]? = some d) : ∃ c, z.cps.toList[i]? = some c ∧ d = .str ⟨#[c]⟩ := by
  unfold signs at h
  rw [List.getElem?_map] at h
  cases e : z.cps.toList[i]? with
  | none => rw [e] at h; cases h
  | some c => rw [e] at h; exact ⟨c, rfl, (Option.some.inj h).symm⟩
theorem signs_len (z : Str) : (signs z).length = z.length := by unfold signs; rw [List.length_map]; exact Array.length_toList
theorem map_step {α β : Type} {f : α → β} {l : List α} {i : Nat} {d : α} (h : l[i]? = some d) : (l.take (i + 1)).map f = (l.take i).map f ++ [f d] := by
  rw [List.take_add_one, h, List.map_append]; rfl
theorem rng_get {lo : Int} {n i : Nat} {d : D} (h : (rng lo n)[i]? = some d) : i < n ∧ d = .int (lo + (i : Int)) := by
  unfold rng at h
  rw [List.getElem?_map] at h
  by_cases hi : i < n
  · rw [List.getElem?_range hi] at h
    exact ⟨hi, (Option.some.inj h).symm⟩
  · rw [List.getElem?_eq_none (by simp; omega)] at h; cases h
theorem rng_len {lo : Int} {n : Nat} : (rng lo n).length = n := by unfold rng; simp

section
variable {M : MS}
theorem vw_non : view M .non = .non := rfl
theorem vw_bl {b} : view M (.bl b) = .bl b := rfl
theorem vw_int {b} : view M (.int b) = .int b := rfl
theorem vw_str {b} : view M (.str b) = .str b := rfl
theorem vw_tup {b} : view M (.tup b) = .tup b := rfl
theorem vw_lst {b} : view M (.lst b) = .lst b := rfl
theorem vw_fro {b} : view M (.fro b) = .fro b := rfl
theorem vw_dct {b} : view M (.dct b) = .dct b := rfl
theorem ty_non : tyD .non = some "NoneType" := rfl
theorem ty_bl {b} : tyD (.bl b) = some "bool" := rfl
theorem ty_int {b} : tyD (.int b) = some "int" := rfl
theorem ty_str {b} : tyD (.str b) = some "str" := rfl
theorem ty_tup {b} : tyD (.tup b) = some "tuple" := rfl
theorem ty_lst {b} : tyD (.lst b) = some "list" := rfl
theorem ty_dct {b} : tyD (.dct b) = some "dict" := rfl
theorem tn_str : "str" ∈ tyNames := by decide
theorem tn_int : "int" ∈ tyNames := by decide
theorem tn_bool : "bool" ∈ tyNames := by decide
theorem tn_list : "list" ∈ tyNames := by decide
theorem tn_tuple : "tuple" ∈ tyNames := by decide
theorem tn_dict : "dict" ∈ tyNames := by decide
theorem vw_obj_lst {p ds} (h : M p = some (.lst ds)) : view M (.obj p) = .lst ds := by simp [view, h]
theorem vw_obj_dct {p ds} (h : M p = some (.dct ds)) : view M (.obj p) = .dct ds := by simp [view, h]
end

/-! what operators give of things whose kind is known -/
section
variable {M : MS}
theorem add_int {i j : Int} {q} : addD M (.int i) (.int j) q = q (.int (i + j)) := rfl
theorem add_str {a b : Str} {q} : addD M (.str a) (.str b) q = (a.length + b.length ≤ 100000 ∧ q (.str (a ++ b))) := rfl
theorem add_lst {a b : List D} {q} : addD M (.lst a) (.lst b) q = (a.length + b.length ≤ 100000 ∧ q (.lst (a ++ b))) := rfl
theorem add_tup {a b : List D} {q} : addD M (.tup a) (.tup b) q = (a.length + b.length ≤ 100000 ∧ q (.tup (a ++ b))) := rfl
theorem mul_int {i j : Int} {q} : mulD M (.int i) (.int j) q = (CMulW i j ∧ q (.int (i * j))) := rfl
theorem mul_str {a : Str} {n : Int} {q} : mulD M (.str a) (.int n) q = (-1000000 ≤ n ∧ n ≤ 1000000 ∧ a.length * n.toNat ≤ 1000000 ∧ q (.str (Txt.mul a n))) := rfl
theorem ix_str {z : Str} {i : Int} {q} : ixD M (.str z) (.int i) q ↔ (z.length ≤ 100000 ∧ ∃ c, atI z.cps.toList i = some c ∧ q (.str ⟨#[c]⟩)) :=
  ⟨fun ⟨_, e, h⟩ => by cases e; exact h, fun h => ⟨i, rfl, h⟩⟩
theorem ix_lst {z : List D} {i : Int} {q} : ixD M (.lst z) (.int i) q ↔ (∃ c, atI z i = some c ∧ q c) :=
  ⟨fun ⟨_, e, h⟩ => by cases e; exact h, fun h => ⟨i, rfl, h⟩⟩
theorem ix_tup {z : List D} {i : Int} {q} : ixD M (.tup z) (.int i) q ↔ (∃ c, atI z i = some c ∧ q c) :=
  ⟨fun ⟨_, e, h⟩ => by cases e; exact h, fun h => ⟨i, rfl, h⟩⟩
theorem count_str {a b : Str} {q} : countM M (.str a) [.str b] q ↔ q (.int (Txt.count a b)) :=
  ⟨fun ⟨_, _, e, f, h⟩ => by cases e; cases f; exact h, fun h => ⟨a, b, rfl, rfl, h⟩⟩
theorem len_str {s : Str} {q} : lenC M [.str s] q ↔ (s.length ≤ 100000 ∧ q (.int s.length)) :=
  ⟨fun ⟨_, e, h⟩ => by cases e; exact h, fun h => ⟨_, rfl, h⟩⟩
theorem len_lst {s : List D} {q} : lenC M [.lst s] q ↔ q (.int s.length) :=
  ⟨fun ⟨_, e, h⟩ => by cases e; exact h, fun h => ⟨_, rfl, h⟩⟩
theorem len_tup {s : List D} {q} : lenC M [.tup s] q ↔ q (.int s.length) :=
  ⟨fun ⟨_, e, h⟩ => by cases e; exact h, fun h => ⟨_, rfl, h⟩⟩
theorem tru_bl {b : Bool} {q} : truD M (.bl b) q = q b := rfl
theorem tru_int {b : Int} {q} : truD M (.int b) q = q (b != 0) := rfl
theorem tru_str {s : Str} {q} : truD M (.str s) q = (s.length ≤ sizeLine ∧ q ((s.length : Int) != 0)) := rfl
theorem tru_lst {s : List D} {q} : truD M (.lst s) q = q (!s.isEmpty) := rfl
theorem tru_tup {s : List D} {q} : truD M (.tup s) q = q (!s.isEmpty) := rfl
theorem key_str {s : Str} : keyD (.str s) = some (.inr s) := rfl
theorem key_int {s : Int} : keyD (.int s) = some (.inl s) := rfl
theorem x_eq : ("x" : Str) = ⟨#[120]⟩ := by decide +kernel
theorem sgx {c : Nat} : ((⟨#[c]⟩ : Str) == ("x" : Str)) = decide (c = 120) := by
  rw [x_eq]
  by_cases h : c = 120
  · subst h; rfl
  · rw [decide_eq_false h]
    refine beq_eq_false_iff_ne.mpr fun e => h ?_
    have := congrArg Str.cps e
    simpa using this
end

/-! == and != : texts and numbers as they are, all else as data -/
def eqE : OD := fun M d e q => match d, e with
  | .str a, .str b => q (.bl (a == b))
  | .int a, .int b => q (.bl (decide (a = b)))
  | d, e => eqD M d e q
def neE : OD := fun M d e q => match d, e with
  | .str a, .str b => q (.bl (!(a == b)))
  | .int a, .int b => q (.bl (!decide (a = b)))
  | d, e => neD M d e q
theorem dec_str {a b : Str} : decide (V.str a = V.str b) = (a == b) := by
  by_cases h : a = b
  · subst h; simp
  · rw [decide_eq_false (fun e => h (V.str.inj e)), beq_eq_false_iff_ne.mpr h]
theorem dec_int {a b : Int} : decide (V.int a = V.int b) = decide (a = b) := by
  by_cases h : a = b
  · subst h; simp
  · rw [decide_eq_false (fun e => h (V.int.inj e)), decide_eq_false h]
section
variable {X : Cx}
theorem op_eqE (hu : X.A.units + 64 < cLine) : OpR X (compareOp .Eq) (fun x y H Q => rEq x y H Q ∨ rEqD X.K x y H Q) := op_eq.or (op_eqD hu)
theorem op_neE (hu : X.A.units + 64 < cLine) : OpR X (compareOp .NotEq) (fun x y H Q => rNe x y H Q ∨ rNeD X.K x y H Q) := op_ne.or (op_neD hu)
theorem l_eqE : Lifts X.K eqE (fun x y H Q => rEq x y H Q ∨ rEqD X.K x y H Q) := fun F M H v u d e q Q o i1 i2 h kt => by
  unfold eqE at h
  split at h
  · obtain rfl := isD_str i1
    obtain rfl := isD_str i2
    exact .inl ⟨rfl, by rw [dec_str]; exact kt _ _ F H .refl o .bl h⟩
  · obtain rfl := isD_int i1
    obtain rfl := isD_int i2
    exact .inl ⟨rfl, by rw [dec_int]; exact kt _ _ F H .refl o .bl h⟩
  · exact .inr (l_eqD F M H v u _ _ q Q o i1 i2 h kt)
theorem l_neE : Lifts X.K neE (fun x y H Q => rNe x y H Q ∨ rNeD X.K x y H Q) := fun F M H v u d e q Q o i1 i2 h kt => by
  unfold neE at h
  split at h
  · obtain rfl := isD_str i1
    obtain rfl := isD_str i2
    exact .inl ⟨rfl, by rw [dec_str]; exact kt _ _ F H .refl o .bl h⟩
  · obtain rfl := isD_int i1
    obtain rfl := isD_int i2
    exact .inl ⟨rfl, by rw [dec_int]; exact kt _ _ F H .refl o .bl h⟩
  · exact .inr (l_neD F M H v u _ _ q Q o i1 i2 h kt)
end
section
variable {M : MS}
theorem eq_str {a b : Str} {q} : eqE M (.str a) (.str b) q = q (.bl (a == b)) := rfl
theorem ne_str {a b : Str} {q} : neE M (.str a) (.str b) q = q (.bl (!(a == b))) := rfl
theorem eq_int {a b : Int} {q} : eqE M (.int a) (.int b) q = q (.bl (decide (a = b))) := rfl
theorem ne_int {a b : Int} {q} : neE M (.int a) (.int b) q = q (.bl (!decide (a = b))) := rfl
theorem eq_lst {a b : List D} {q} : eqE M (.lst a) (.lst b) q = eqD M (.lst a) (.lst b) q := rfl
theorem ne_lst {a b : List D} {q} : neE M (.lst a) (.lst b) q = neD M (.lst a) (.lst b) q := rfl
end
end TV

set_option Elab.async false
set_option linter.all false
set_option maxRecDepth 100000
set_option maxHeartbeats 1000000
/-! The end of a law row for defs behind FnG: sys.modules' own dict is held still beside the script. -/
namespace TV
open PySem PySem.Spec PyProof.Rows L2

theorem isDs_ints {K : PySem.W.Frag} {F : Hp} : ∀ ns : List Int, IsDs K F (ns.map V.int) (ns.map D.int)
  | [] => .nil
  | _ :: ns => .cons .int (isDs_ints ns)
section
variable {P : Program} {w : World} {K : PySem.W.Frag} {mg mb : Str → Option Value} {k : Nat} {fa a : Addr} {fd : FuncData} {x : Str} {sp : DSp} {s₁ : Shared} {vs : List Value} {ns : List Int}
theorem law_coreG (KX : K.In s₁.heap) (hns : s₁.heap.Ns mainGlobals mg) (hb : s₁.heap.Ns builtinsNs mb) (hbb : ∀ x : Str, x ≠ "__name__" → mb x = bootBuiltins x) (hlim : s₁.heap.NoLimit) (hg : s₁.gens = #[])
    (ha : s₁.heap.get? a = some { cls := .type "list", data := .seq vs.toArray }) (hr : Rm k callerA) (hKs : K.lookup sysModules = none) {oS : Obj} (eS : s₁.heap.get? sysModules = some oS)
    (F : ∀ base : Heap, K.In base → base.Ns mainGlobals mg → FnG P w K mg base CX0 k fa fd [x] (rSp K sp)) (hbind : ∀ (s : Shared) (u : Value), BindsTo s fd ⟨[u], []⟩ [(x, u)])
    (hsp : sp [.fro (ns.map D.int)] (fun _ => none) (fun _ _ _ => False) (fun d _ => d = .bl true))
    (H : Hp) (hdom : ∀ b, H b ≠ none → b = sysModules ∨ (b = a ∧ K.lookup a = none)) (Hs : H sysModules = some (.ext fun h => h.get? sysModules = some oS)) (hok : HOk P w H s₁.heap)
    (hfrz : ∀ b, b ≠ sysModules → H b = none ∨ ∃ o u, H b = some (.frz o u)) (hS : SqL K (fun b => if b = sysModules then none else H b) a (ns.map V.int)) :
    codeAny (model P w) callerA (.call (.ref fa) ⟨[.ref a], []⟩) (fun r s' => r = .ok (.ret (.bool true)) ∧ OldK s₁.heap s'.heap ∧ s'.os = s₁.os ∧ AllBare s'.gens) s₁ := by
  have noD : ∀ {b : Addr} {o : Obj} {es : Array DictEntry} {ep : Nat}, b ≠ sysModules → s₁.heap.get? b = some o → o.data = .dict es ep → H b = none := fun {b o es ep} hb e d => by
    cases q : H b with
    | none => rfl
    | some u =>
      rcases hdom b (by rw [q]; simp) with z | ⟨z, _⟩
      · exact absurd z hb
      · subst z
        rw [ha] at e
        cases e
        cases d
  have nsK : ∀ {b : Addr} {m : Str → Option Value}, b ≠ sysModules → s₁.heap.Ns b m → (hidT s₁.heap H).Ns b m := fun hb ⟨o, es, ep, e, d, r⟩ => ⟨o, es, ep, hidT_get e (noD hb e d), d, r⟩
  have hKb : K.In (hidT s₁.heap H) := fun b o e => hidT_get (KX b o e) (by
    cases q : H b with
    | none => rfl
    | some u =>
      rcases hdom b (by rw [q]; simp) with z | ⟨z, y⟩
      · subst z; rw [hKs] at e; cases e
      · subst z; rw [y] at e; cases e)
  have hM : L2.Mod K mg (hidT s₁.heap H) := ⟨hKb, nsK (by decide) hns, ⟨mb, nsK (by decide) hb, hbb⟩, let ⟨mc, h1, h2⟩ := hlim; ⟨mc, nsK (by decide) h1, h2⟩⟩
  have e0 : Env0 P w K mg (hidT s₁.heap H) callerA [] s₁ H := ⟨rfl, hM, fun b o e => of_hidT e, Nat.le_of_eq (hidT_size _ _), trivial, fun b hb => absurd (show b ∈ ([] : List Addr) from hb) (by simp), hok, AllBare.of_eq hg⟩
  have ho : HeapOk K (fun b => if b = sysModules then none else H b) (fun _ => none) H := ⟨fun b o e => (by
    by_cases z : b = sysModules
    · rw [if_pos z] at e; cases e
    · rw [if_neg z] at e; exact e), fun _ _ z => (by cases z), ⟨_, Hs, if_pos rfl, rfl⟩⟩
  refine codeAny_mono ((F (hidT s₁.heap H) hKb (nsK (by decide) hns)).goes callerA [] s₁ H ⟨[.ref a], []⟩ [.ref a] [.ref a]
    (fun v H' => v = .bl true ∧ H' sysModules = some (.ext fun h => h.get? sysModules = some oS)) (fun _ _ _ => False) hr e0 (hbind s₁ _) (.cons rfl .nil)
    ⟨[.fro (ns.map D.int)], _, fun _ => none, fun _ _ _ => False, fun d _ => d = .bl true, ho, .cons (.fro hS (isDs_ints ns)) .nil, hsp, fun v d F' M' H' g o i hd => ?_, fun _ _ _ _ _ _ _ _ _ _ _ z => z.elim⟩) fun r s' h => ?_
  · subst hd
    exact ⟨isD_bl i, g.fr sysModules _ Hs (if_pos rfl) rfl⟩
  · cases r with
    | error e => exact h.elim
    | ok fl =>
      cases fl with
      | ret u =>
        obtain ⟨v, H', os, bare, un, hok', rv, hv, hext⟩ := h
        subst hv
        have ru : u = .bool true := rv
        subst ru
        refine ⟨rfl, OldK.of_keep fun b o e => ?_, os, bare⟩
        by_cases z : b = sysModules
        · subst z
          have := (hok' _ _ hext).1
          rw [eS] at e
          cases e
          exact this
        · rcases hfrz b z with q | ⟨o', u, q⟩
          · exact un.keep b o e q (fun z => by cases z) (fun z => by cases z)
          · have h1 := hok b _ q
            have h2 := hok' b _ (un.frzs b _ _ q)
            have e1 := h1.1
            rw [e] at e1
            cases e1
            exact h2.1
      | next => exact h.elim
      | brk => exact h.elim
      | cont => exact h.elim
theorem law_callG (KX : K.In s₁.heap) (hns : s₁.heap.Ns mainGlobals mg) (hb : s₁.heap.Ns builtinsNs mb) (hbb : ∀ x : Str, x ≠ "__name__" → mb x = bootBuiltins x) (hlim : s₁.heap.NoLimit) (hg : s₁.gens = #[])
    (ha : s₁.heap.get? a = some { cls := .type "list", data := .seq vs.toArray }) (hi : IntsAre vs ns) (hl : ns.length ≤ sizeLine) (hr : Rm k callerA) (hKs : K.lookup sysModules = none) {mm : Str → Option Value} (hmm : s₁.heap.Ns sysModules mm)
    (F : ∀ base : Heap, K.In base → base.Ns mainGlobals mg → FnG P w K mg base CX0 k fa fd [x] (rSp K sp)) (hbind : ∀ (s : Shared) (u : Value), BindsTo s fd ⟨[u], []⟩ [(x, u)])
    (hsp : sp [.fro (ns.map D.int)] (fun _ => none) (fun _ _ _ => False) (fun d _ => d = .bl true)) :
    codeAny (model P w) callerA (.call (.ref fa) ⟨[.ref a], []⟩) (fun r s' => r = .ok (.ret (.bool true)) ∧ OldK s₁.heap s'.heap ∧ s'.os = s₁.os ∧ AllBare s'.gens) s₁ := by
  obtain ⟨oS, es, ep, eS, dS, _⟩ := hmm
  have has : a ≠ sysModules := fun z => by
    subst z
    rw [ha] at eS
    cases eS
    cases dS
  have rv := vals_ints hi
  have extOk : ∀ H : Hp, ObjOk P w H s₁.heap sysModules (.ext fun h => h.get? sysModules = some oS) := fun H => ⟨eS, ⟨oS, eS⟩, fun h1 h2 q z => z _ q⟩
  cases hk : K.lookup a with
  | none =>
    refine law_coreG KX hns hb hbb hlim hg ha hr hKs eS F hbind hsp (fun b => if b = sysModules then some (.ext fun h => h.get? sysModules = some oS) else if b = a then some (.frz { cls := .type "list", data := .seq vs.toArray } (.lst (ns.map V.int))) else none) (fun b z => ?_) (if_pos rfl) (fun b u q => ?_) (fun b z => ?_) ?_
    · by_cases e : b = sysModules
      · exact .inl e
      · by_cases e2 : b = a
        · exact .inr ⟨e2, hk⟩
        · exact absurd (by rw [if_neg e, if_neg e2]) z
    · by_cases e : b = sysModules
      · subst e
        dsimp only at q
        rw [if_pos rfl] at q
        cases q
        exact extOk _
      · by_cases e2 : b = a
        · subst e2
          dsimp only at q
          rw [if_neg e, if_pos rfl] at q
          cases q
          exact ⟨ha, by rw [List.length_map]; exact hl, vs, 0, rv, ha⟩
        · dsimp only at q; rw [if_neg e, if_neg e2] at q; cases q
    · by_cases e2 : b = a
      · exact .inr ⟨_, _, by rw [if_neg z, if_pos e2]⟩
      · exact .inl (by rw [if_neg z, if_neg e2])
    · exact .inl (.inr ⟨_, by show (if a = sysModules then none else _) = _; rw [if_neg has]; show (if a = sysModules then _ else _) = _; rw [if_neg has, if_pos rfl]⟩)
  | some o =>
    have e := KX a o hk
    rw [ha] at e
    cases e
    refine law_coreG KX hns hb hbb hlim hg ha hr hKs eS F hbind hsp (fun b => if b = sysModules then some (.ext fun h => h.get? sysModules = some oS) else none) (fun b z => ?_) (if_pos rfl) (fun b u q => ?_) (fun b z => .inl (if_neg z)) ?_
    · by_cases e : b = sysModules
      · exact .inl e
      · exact absurd (if_neg e) z
    · by_cases e : b = sysModules
      · subst e
        dsimp only at q
        rw [if_pos rfl] at q
        cases q
        exact extOk _
      · dsimp only at q; rw [if_neg e] at q; cases q
    · exact .inr ⟨_, vs.toArray, 0, hk, rfl, rfl, rfl, by rw [List.size_toArray, hi.length]; exact hl, rv⟩
end
/-- THE END: a law row whose law is a def behind FnG -/
theorem walk_ofG {l : PySem.W.OpenLaw} {n k : Nat} {q : Program} {loose : List Str} {XP : (Str → Option Value) → Heap → Prop} {YP : World → Heap → Prop} {d : DefRec} {K : Params → PySem.W.Frag} {sp : World → DSp} {x : Str}
    (hn : l.most = some n) (hn2 : n ≤ sizeLine) (hdf : d.params.defaults = []) (hr : Rm k callerA) (himp : importsNone q = true) (hY : ∀ (w : World) (h : Heap), YP w h → (K w.params).In h)
    (hKs : ∀ P, (K P).lookup sysModules = none)
    (F : ∀ (w : World) (mg : Str → Option Value) (fa : Addr) (h : Heap), (K w.params).In h → h.Ns mainGlobals mg → mg d.name = some (.ref fa) →
      ∃ fd : FuncData, (∀ (s : Shared) (u : Value), BindsTo s fd ⟨[u], []⟩ [(x, u)]) ∧ ∀ base : Heap, (K w.params).In base → base.Ns mainGlobals mg → FnG l.prog w (K w.params) mg base CX0 k fa fd [x] (rSp (K w.params) (sp w)))
    (hsp : ∀ (w : World) (ns : List Int), ns.length ≤ n → sp w [.fro (ns.map D.int)] (fun _ => none) (fun _ _ _ => False) (fun d _ => d = .bl true)) :
    PySem.W.WalkO q loose XP YP l.row.toRowW d [] fun f vs => PySem.call f vs :=
  Att.attach_call hn hdf fun w s₀ s₁ mg mb fa o pm cd doc a vs ns G Y hfa ho hcd hmg ha hi hl hg => by
    obtain ⟨fd, hbind, hF⟩ := F w mg fa s₁.heap (hY w _ Y) G.T.g hmg
    obtain ⟨mm, hmm, _⟩ := (G.T.seer himp).mods
    exact law_callG (hY w _ Y) G.T.g G.T.b G.T.builtins G.T.nolimit hg ha hi (Nat.le_trans hl hn2) hr (hKs _) hmm hF hbind (hsp w ns hl)
theorem lookup_none {α : Type} : ∀ (K : List (Addr × α)) (a : Addr), (K.map (·.1)).contains a = false → K.lookup a = none
  | [], _, _ => rfl
  | (b, o) :: K, a, h => by
    rw [List.map_cons, List.contains_cons, Bool.or_eq_false_iff] at h
    rw [List.lookup_cons, h.1]
    exact lookup_none K a h.2
/-- .. with the objects that the top has left, as the head writes them out -/
theorem walk_ofH {l : PySem.W.OpenLaw} {n k : Nat} {q : Program} {loose : List Str} {XP : (Str → Option Value) → Heap → Prop} {d : DefRec} {K : Params → PySem.W.Frag} {as : List Addr} {e : ∀ P, as = (K P).map (·.1)} {sp : World → DSp} {x : Str}
    (hn : l.most = some n) (hn2 : n ≤ sizeLine) (hdf : d.params.defaults = []) (hr : Rm k callerA) (himp : importsNone q = true) (hKs : as.contains sysModules = false)
    (F : ∀ (w : World) (mg : Str → Option Value) (fa : Addr) (h : Heap), (K w.params).In h → h.Ns mainGlobals mg → mg d.name = some (.ref fa) →
      ∃ fd : FuncData, (∀ (s : Shared) (u : Value), BindsTo s fd ⟨[u], []⟩ [(x, u)]) ∧ ∀ base : Heap, (K w.params).In base → base.Ns mainGlobals mg → FnG l.prog w (K w.params) mg base CX0 k fa fd [x] (rSp (K w.params) (sp w)))
    (hsp : ∀ (w : World) (ns : List Int), ns.length ≤ n → sp w [.fro (ns.map D.int)] (fun _ => none) (fun _ _ _ => False) (fun d _ => d = .bl true)) :
    PySem.W.WalkO q loose XP (PySem.W.kHook K as e).says l.row.toRowW d [] fun f vs => PySem.call f vs :=
  walk_ofG hn hn2 hdf hr himp (fun w h Y => PySem.W.kIn_of Y) (fun P => lookup_none _ _ (by rw [← e P]; exact hKs)) F hsp
end TV

set_option Elab.async false
set_option linter.all false
set_option maxRecDepth 100000
set_option maxHeartbeats 1000000
/-! Methods behind FnG. -/
namespace TV
open PySem PySem.Spec PyProof.Rows L2
section
variable {X : Cx} {CX : CXT} {k : Nat} {f C : Addr} {fd : FuncData} {ps : List Str} {sp : Sp} {dvs : List V} {ds : List Value} {E : XK} {m : Str} {pos apos : Pos} {e o : Expr} {es : List Expr} {ta : TE} {t : TA} {pl : Sem Bool}
theorem pe_methG (he : PE X o ta) (c : Cls X.K C) (hm : Meth X.K C m f) (F : FnG X.prog X.w X.K X.mg X.base CX k f fd ps sp) (hr : Rm k X.A) (hb : Binds X.K fd ps ds) (hd : Vals dvs ds) (hx : Passes CX X E) (ha : PA X (e :: es) t)
    (hst : starEach (e :: es) X.env = (false, eval e X.env) :: starEach es X.env := by rfl) (hpl : (backTo pos (starEach es X.env)).any (·.1) = false := by rfl)
    (ht : eval (.Call (.Attribute o m apos) (e :: es) [] pos) X.env = (do
      let ov ← eval o X.env
      standAt apos.atName
      let (f, first) ← holding [ov] (getMethod ov m pl)
      callWith pos f first (backTo pos (starEach (e :: es) X.env)) (backToKw pos (keywordEach [] X.env))) := by rfl) :
    PE X (.Call (.Attribute o m apos) (e :: es) [] pos) (tMeth C m sp dvs E ta t) :=
  ⟨fun pins s σ H Q I h => PySem.W.methodCall_KW (thn (he.run pins s σ H _ I h) fun u s1 ⟨x, H1, I1, rx, a, dx, fs, ex, ea, l, q⟩ => by
    subst ex
    have eu : u = .ref a := rx
    subst eu
    exact getmeth_ok I1 ea c hm l (PySem.W.callWith_K I.ok.mod.kin hm.kp (thn (ha.run pos pins s1 σ H1 _ I1 q) fun us s2 ⟨vs, H2, I2, r, q2⟩ => ⟨I2.kIn, goesG (vs := .ref a :: vs) F hr hb hd hx I2 (.cons rfl r) q2⟩) hst hpl)) ht⟩
theorem pe_meth0G (he : PE X o ta) (c : Cls X.K C) (hm : Meth X.K C m f) (F : FnG X.prog X.w X.K X.mg X.base CX k f fd ps sp) (hr : Rm k X.A) (hb : Binds X.K fd ps ds) (hd : Vals dvs ds) (hx : Passes CX X E)
    (ht : eval (.Call (.Attribute o m apos) [] [] pos) X.env = (do
      let ov ← eval o X.env
      standAt apos.atName
      let (f, first) ← holding [ov] (getMethod ov m pl)
      callWith pos f first (backTo pos (starEach [] X.env)) (backToKw pos (keywordEach [] X.env))) := by rfl) :
    PE X (.Call (.Attribute o m apos) [] [] pos) (tMeth C m sp dvs E ta tNil) :=
  ⟨fun pins s σ H Q I h => PySem.W.methodCall_KW (thn (he.run pins s σ H _ I h) fun u s1 ⟨x, H1, I1, rx, a, dx, fs, ex, ea, l, q⟩ => by
    subst ex
    have eu : u = .ref a := rx
    subst eu
    exact getmeth_ok I1 ea c hm l (PySem.W.callWith_K0 I1.kIn hm.kp (goesG (vs := [.ref a]) F hr hb hd hx I1 (.cons rfl .nil) q))) ht⟩
end
theorem Rm.make {k : Nat} {A : Around} (r : Rm (k + 1) A) (C : Addr) (us : List Value) (kw : List (Str × Value)) : Rm k (A.under (.builtin "type.__call__" ⟨.ref C :: us, kw⟩)) := ⟨r.room.make C us kw, r.grd⟩
section
variable {X : Cx} {CX : CXT} {k : Nat} {f C : Addr} {fd : FuncData} {ps : List Str} {sp : Sp} {dvs : List V} {ds : List Value} {E : XK}
theorem run_makeG {pins : List (Addr × Obj)} {σ : L2.St} {H : Hp} {s : Shared} {Q : VK} {us : List Value} {vs : List V} (M : Mk X.K C f) (F : FnG X.prog X.w X.K X.mg X.base CX k f fd ps sp) (hr : Rm (k + 1) X.A) (hb : Binds X.K fd ps ds) (hd : Vals dvs ds) (hx : Passes CX X E)
    (I : Inv X pins σ H s) (r : Vals vs us)
    (h : ∀ x dx, H x = none → H dx = none → dx ≠ x → sp (.ref x :: (vs ++ dvs)) (upd (upd H dx (.own x)) x (.ins C dx [])) (fun v H2 => v = .non ∧ Q (.ref x) H2) E) :
    wpAny (model X.prog X.w) X.A (call (.ref C) us) (EP X pins σ Q) X.xe s := by
  have hq := h (s.heap.objs.size + 1) s.heap.objs.size (I.hok.fresh (Nat.le_succ _)) (I.hok.fresh (Nat.le_refl _)) (Nat.ne_of_lt (Nat.lt_succ_self _))
  have I2 := I.made (C := C)
  have r2 : Vals (.ref (s.heap.objs.size + 1) :: (vs ++ dvs)) (.ref (s.heap.objs.size + 1) :: (us ++ ds)) := .cons rfl (r.append hd)
  have hl : (.ref (s.heap.objs.size + 1) :: (us ++ ds) : List Value).length = ps.length := by rw [← r2.length]; exact F.many _ _ _ _ hq
  refine wpAny_call (make_map I.kIn M.makes M.init (beq_iff_eq.mp M.fn) (codeAny_mono (F.goes _ X.stack _ _ _ _ _ _ E (hr.make C us []) (I2.env0.make C us []) (hb _ (.ref (s.heap.objs.size + 1) :: us) I2.kIn hl) r2 hq) fun r s' hq' => ?_))
  cases r with
  | error e => exact hx pins σ _ _ e s' I2 hq'
  | ok fl =>
    cases fl with
    | next => exact False.elim hq'
    | brk => exact False.elim hq'
    | cont => exact False.elim hq'
    | ret u =>
      obtain ⟨v, H', I3, rv, ev, q3⟩ := I2.after hq'
      subst ev
      exact ⟨rv, .ref (s.heap.objs.size + 1), H', I3, rfl, q3⟩
variable {x : Str} {p pos : Pos} {e : Expr} {es : List Expr} {t : TA}
theorem pe_makeG (M : Mk X.K C f) (F : FnG X.prog X.w X.K X.mg X.base CX k f fd ps sp) (hr : Rm (k + 1) X.A) (hg : Gl X x) (hm : X.mg x = some (.ref C)) (hb : Binds X.K fd ps ds) (hd : Vals dvs ds) (hx : Passes CX X E) (ha : PA X (e :: es) t)
    (hdb : (x == ("__debug__" : Str)) = false := by decide) (he : starEach (e :: es) X.env = (false, eval e X.env) :: starEach es X.env := by rfl) (hpl : (backTo pos (starEach es X.env)).any (·.1) = false := by rfl) :
    PE X (.Call (.Name x p) (e :: es) [] pos) (tMake C sp dvs E t) :=
  ⟨fun pins s σ H Q I h => wpAny_Call_Name_kw (ld_glob I hg hm (PySem.W.callWith_K I.ok.mod.kin M.kp (thn (ha.run pos pins s σ H _ I h) fun us s1 ⟨vs, H1, I1, r, q⟩ => ⟨I1.kIn, run_makeG M F hr hb hd hx I1 r q⟩) he hpl) hdb)⟩
end
/-! ### over trees -/
section
variable {X : Cx} {CX : CXT} {G : XK} {k : Nat} {f C : Addr} {fd : FuncData} {ps : List Str} {sp : DSp} {m : Str} {pos apos : Pos} {e o : Expr} {es : List Expr} {wo : DE} {w : DA} {pl : Sem Bool}
/-- o.m(..): o an instance in the store (.obj) or one that is as it is (.ins) -/
def wMeth (C : Addr) (m : Str) (sp : DSp) (wo : DE) (w : DA) : DE := fun ρ M x k => wo ρ M x fun d M1 => ∃ fs, view M1 d = .ins C fs ∧ fs.lookup m = none ∧ w ρ M1 x fun ds M2 => sp (d :: ds) M2 x k
theorem lookup_fs {K : PySem.W.Frag} {F : Hp} {m : Str} : ∀ {gs fs}, IsFs K F gs fs → fs.lookup m = none → gs.lookup m = none
  | _, _, .nil, _ => rfl
  | _, _, .cons (k := k) i r, h => by
    rw [List.lookup_cons] at h ⊢
    cases e : (m == k) with
    | true => rw [e] at h; cases h
    | false => rw [e] at h; exact lookup_fs r h
theorem xmeth (ho : XE X G o wo) (c : Cls X.K C) (hm : Meth X.K C m f) (F : FnG X.prog X.w X.K X.mg X.base CX k f fd ps (rSp X.K sp)) (hr : Rm k X.A) (hb : Binds X.K fd ps []) (hx : Passes CX X G) (ha : XA X G (e :: es) w)
    (hst : starEach (e :: es) X.env = (false, eval e X.env) :: starEach es X.env := by rfl) (hpl : (backTo pos (starEach es X.env)).any (·.1) = false := by rfl)
    (ht : eval (.Call (.Attribute o m apos) (e :: es) [] pos) X.env = (do
      let ov ← eval o X.env
      standAt apos.atName
      let (f, first) ← holding [ov] (getMethod ov m pl)
      callWith pos f first (backTo pos (starEach (e :: es) X.env)) (backToKw pos (keywordEach [] X.env))) := by rfl) :
    XE X G (.Call (.Attribute o m apos) (e :: es) [] pos) (wMeth C m sp wo w) :=
  PE.imp (pe_methG ho c hm F hr hb .nil hx ha hst hpl ht) fun σ H Q ⟨ρ, F0, M, x, k, a, q, kt⟩ => ⟨ρ, F0, M, x, _, a, q, fun v d F1 M1 H1 g1 o1 i1 ⟨fs, ev, el, q1⟩ => by
    obtain ⟨p, dx, gs, rfl, ep, r⟩ := asIns o1 i1 ev
    refine ⟨p, dx, gs, rfl, ep, lookup_fs r el, ρ, F1, M1, x, _, a.step g1 o1, q1, fun vs ds F2 M2 H2 g2 o2 i2 q2 => ?_⟩
    show rSp X.K sp (.ref p :: (vs ++ [])) H2 Q G
    rw [List.append_nil]
    exact ⟨d :: ds, F2, M2, x, k, o2, .cons (i1.mono g2.ex) i2, q2, fun v d F3 M3 H3 g3 => kt v d F3 M3 H3 ((g1.trans g2).trans g3), (a.xok.step g1).step g2⟩⟩
theorem xmeth0 (ho : XE X G o wo) (c : Cls X.K C) (hm : Meth X.K C m f) (F : FnG X.prog X.w X.K X.mg X.base CX k f fd ps (rSp X.K sp)) (hr : Rm k X.A) (hb : Binds X.K fd ps []) (hx : Passes CX X G)
    (ht : eval (.Call (.Attribute o m apos) [] [] pos) X.env = (do
      let ov ← eval o X.env
      standAt apos.atName
      let (f, first) ← holding [ov] (getMethod ov m pl)
      callWith pos f first (backTo pos (starEach [] X.env)) (backToKw pos (keywordEach [] X.env))) := by rfl) :
    XE X G (.Call (.Attribute o m apos) [] [] pos) (wMeth C m sp wo wNil) :=
  PE.imp (pe_meth0G ho c hm F hr hb .nil hx ht) fun σ H Q ⟨ρ, F0, M, x, k, a, q, kt⟩ => ⟨ρ, F0, M, x, _, a, q, fun v d F1 M1 H1 g1 o1 i1 ⟨fs, ev, el, q1⟩ => by
    obtain ⟨p, dx, gs, rfl, ep, r⟩ := asIns o1 i1 ev
    refine ⟨p, dx, gs, rfl, ep, lookup_fs r el, ?_⟩
    exact ⟨[d], F1, M1, x, k, o1, .cons i1 .nil, q1, fun v d F3 M3 H3 g3 => kt v d F3 M3 H3 (g1.trans g3), a.xok.step g1⟩⟩
variable {x : Str} {p : Pos}
/-- C(..): a new instance in the store, then its __init__ -/
def wMake (C : Addr) (sp : DSp) (w : DA) : DE := fun ρ M x k => w ρ M x fun ds M1 => ∀ a, M1 a = none → sp (.obj a :: ds) (updM M1 a (.ins C [])) x fun d M2 => d = .non ∧ k (.obj a) M2
theorem xmake (Mk : Mk X.K C f) (F : FnG X.prog X.w X.K X.mg X.base CX k f fd ps (rSp X.K sp)) (hr : Rm (k + 1) X.A) (hg : Gl X x) (hm : X.mg x = some (.ref C)) (hb : Binds X.K fd ps []) (hx : Passes CX X G) (ha : XA X G (e :: es) w)
    (hdb : (x == ("__debug__" : Str)) = false := by decide) (he : starEach (e :: es) X.env = (false, eval e X.env) :: starEach es X.env := by rfl) (hpl : (backTo pos (starEach es X.env)).any (·.1) = false := by rfl) :
    XE X G (.Call (.Name x p) (e :: es) [] pos) (wMake C sp w) :=
  PE.imp (pe_makeG Mk F hr hg hm hb .nil hx ha hdb he hpl) fun σ H Q ⟨ρ, F0, M, xd, k, a, q, kt⟩ => ⟨ρ, F0, M, xd, _, a, q, fun vs ds F1 M1 H1 g1 o1 i1 q1 => by
    intro px dx hpx hdx hne
    show rSp X.K sp (.ref px :: (vs ++ [])) _ _ G
    rw [List.append_nil]
    have hpx' : (upd H1 dx (.own px)) px = none := by rw [upd_ne (fun z => hne z.symm)]; exact hpx
    have ga : Gr F1 M1 H1 F1 M1 (upd H1 dx (.own px)) := .newU hdx
    have oa : HeapOk X.K F1 M1 (upd H1 dx (.own px)) := o1.newU hdx
    have gb : Gr F1 M1 H1 F1 (updM M1 px (.ins C [])) (upd (upd H1 dx (.own px)) px (.ins C dx [])) := ga.trans (.newM hpx')
    have ob : HeapOk X.K F1 (updM M1 px (.ins C [])) (upd (upd H1 dx (.own px)) px (.ins C dx [])) := oa.put (oa.noF hpx') (.ins .nil) (o1.noS hpx)
    refine ⟨.obj px :: ds, F1, updM M1 px (.ins C []), xd, _, ob, .cons .obj i1, q1 px (o1.noM hpx), fun v d F3 M3 H3 g3 o3 i3 ⟨ed, q3⟩ => ?_, (a.xok.step g1).step gb⟩
    subst ed
    exact ⟨by cases i3; rfl, kt _ _ F3 M3 H3 ((g1.trans gb).trans g3) o3 .obj q3⟩⟩
/-! fields -/
theorem lookup_fsS {K : PySem.W.Frag} {F : Hp} {m : Str} : ∀ {gs fs} {c : D}, IsFs K F gs fs → fs.lookup m = some c → ∃ v, gs.lookup m = some v ∧ IsD K F v c
  | _, _, _, .nil, h => by cases h
  | _, _, _, .cons (k := k) i r, h => by
    rw [List.lookup_cons] at h ⊢
    cases e : (m == k) with
    | true => rw [e] at h; cases h; exact ⟨_, rfl, i⟩
    | false => rw [e] at h; exact lookup_fsS r h
def wFld (C : Addr) (f : Str) (w : DE) : DE := fun ρ M x k => w ρ M x fun d M1 => ∃ fs c, view M1 d = .ins C fs ∧ fs.lookup f = some c ∧ k c M1
theorem xe_fld {f : Str} (c : Cls X.K C) (hn : NoAttr X.K C f) (ho : XE X G o wo) (hb : attributeBase o f X.env (eval o X.env) = eval o X.env := by rfl) : XE X G (.Attribute o f pos) (wFld C f wo) :=
  PE.imp (pe_fld ho hb) fun σ H Q ⟨ρ, F0, M, x, k, a, q, kt⟩ => ⟨ρ, F0, M, x, _, a, q, fun v d F1 M1 H1 g1 o1 i1 ⟨fs, cc, ev, el, q1⟩ => by
    obtain ⟨p, dx, gs, rfl, ep, r⟩ := asIns o1 i1 ev
    obtain ⟨u, eu, iu⟩ := lookup_fsS r el
    exact ⟨p, C, dx, gs, u, rfl, ep, c, hn, eu, kt _ _ F1 M1 H1 g1 o1 iu q1⟩⟩
def putFD (f : Str) (c : D) : List (Str × D) → List (Str × D)
  | [] => [(f, c)]
  | p :: r => if p.1 = f then (p.1, c) :: r else p :: putFD f c r
theorem put_fs {K : PySem.W.Frag} {F : Hp} {f : Str} {v : V} {c : D} (i : IsD K F v c) : ∀ {gs fs}, IsFs K F gs fs → IsFs K F (putF f v gs) (putFD f c fs)
  | _, _, .nil => .cons i .nil
  | _, _, .cons (k := k) j r => by
    rw [putF, putFD]
    by_cases e : k = f
    · rw [if_pos e, if_pos e]; exact .cons i r
    · rw [if_neg e, if_neg e]; exact .cons j (put_fs i r)
theorem len_fs {K : PySem.W.Frag} {F : Hp} : ∀ {gs fs}, IsFs K F gs fs → gs.length = fs.length
  | _, _, .nil => rfl
  | _, _, .cons _ r => by rw [List.length_cons, List.length_cons, len_fs r]
/-- o.f = e, of an instance in the store -/
def wSetF (C : Addr) (f : Str) (wo we : DE) : DS := fun E ρ M x => we ρ M x fun c M1 => wo ρ M1 x fun d M2 => ∃ p fs, d = .obj p ∧ M2 p = some (.ins C fs) ∧ fs.length < 1000 ∧ E.nx ρ (updM M2 p (.ins C (putFD f c fs)))
theorem ys_fld {f : Str} {we : DE} {pos' : Pos} (c : Cls X.K C) (hn : NoAttr X.K C f) (ho : XE X G o wo) (hv : XE X G e we) (hs : swapsWith e (some (.Attribute o f pos')) pos.line X.env = pure false := by rfl) : YS X G (.Assign [.Attribute o f pos'] e pos) (wSetF C f wo we) :=
  PS.imp (ps_fld ho hv hs) fun D σ H ⟨ρ, F, M, x, E, a, q, et⟩ => ⟨ρ, F, M, x, _, a, q, fun v cc F1 M1 H1 g1 o1 i1 q1 => ⟨ρ, F1, M1, x, _, a.step g1 o1, q1, fun u d F2 M2 H2 g2 o2 i2 ⟨p, fs, ed, em, hl, q2⟩ => by
    subst ed
    cases i2
    obtain ⟨nf, ob, hp, mo⟩ := o2.mu p _ em
    cases mo with
    | ins r =>
      rename_i dx gs
      have gg := g1.trans g2
      exact ⟨p, C, dx, gs, rfl, hp, c, hn, by rw [len_fs r]; exact hl, et.nx σ ρ F2 _ _ (gg.trans (Gr.put em)) (o2.put nf (.ins (put_fs (i1.mono g2.ex) r)) (o2.mS em)) (a.env.mono gg.ex) q2⟩⟩⟩
end
end TV

set_option Elab.async false
set_option linter.all false
set_option maxRecDepth 100000
set_option maxHeartbeats 1000000
/-! Defs that may raise. -/
namespace TV
open PySem PySem.Spec PyProof.Rows L2
section
variable {P : Program} {w : World} {K : PySem.W.Frag} {mg : Str → Option Value} {base : Heap}
/-- THE RULE for a def that may let an exception out: the third letter of its promise says which -/
theorem fnTX {x qual : Str} {st : Stmt} {f : Addr} {fd : FuncData} {N ps : List Str} {k : Nat} {sp : DSp} (F : Fun K x qual st f fd) (S : FnScope N ps (defScope st)) (len : ∀ ds M x k, sp ds M x k → ds.length = ps.length)
    (hN : ps.length ≤ N.length)
    (hbody : ∀ (cdv : Value) (A : Around) (outer : List Env) (s : Shared) (H : Hp) (E : XK), Rm k (A.deeper (envOfC qual (defScope st) s.heap.objs.size f cdv)) →
      ∃ w', YSs (cxOf (L2.CX P w) P w K mg base N qual (defScope st) f cdv A outer s H E) E (defBody st) w' ∧
        ∀ ds M xx kk, sp ds M xx kk → w' { nx := fun _ M => kk .non M, rt := kk } (start0 N ds) M xx) :
    FnG P w K mg base (L2.CX P w) (k + 1) f fd ps (rSp K sp) := by
  refine fnG_of F S (fun vs H Q E h => ?_) (fun cdv A outer s H vs Q E hr h => ?_)
  · obtain ⟨ds, F, M, x, kk, o, i, q, _⟩ := h
    rw [i.len]; exact len _ _ _ _ q
  · obtain ⟨w', hw, hq⟩ := hbody cdv A outer s H E hr
    refine ⟨_, hw, ?_⟩
    obtain ⟨ds, F, M, x, kk, o, i, q, kt, xo⟩ := h
    refine ⟨start0 N ds, F, M, x, _, ⟨start_env i (by rw [len _ _ _ _ q]; exact hN), o, xo⟩, hq ds M x kk q, ⟨fun σ' ρ' F' M' H' g o' en z => ?_, fun v d F' M' H' g o' i' z => kt v d F' M' H' g o' i' z, fun _ _ _ _ _ _ _ _ z => z.elim, fun _ _ _ _ _ _ _ _ z => z.elim⟩⟩
    exact kt .non .non F' M' H' g o' .non z
end
end TV

set_option Elab.async false
set_option linter.all false
set_option maxRecDepth 100000
set_option maxHeartbeats 1000000
/-! More of lists: pop, extend, clear, reverse; x += e; while; two fors in one comprehension; min, max, lcm. -/
namespace TV
open PySem PySem.Spec PyProof.Rows L2

/-! ### extend by a tuple -/
theorem meets_extT {l b : Addr} {xs ys : Array Value} {i j : Nat} {dd : Option Addr} {sl : Array (Option Value)}
    (short : ¬(!xs.isEmpty && Builtin.List.listTooLong (xs.size + ys.size)) = true) (few : xs.size ≤ sizeLine) (all : xs.size + ys.size ≤ sizeLine + 1) :
    Meets (Builtin.«list.extend» ⟨[.ref l, .ref b], []⟩) (fun _ R s =>
      s.heap.get? l = some { cls := .type "list", dict := none, data := .seq xs i, slots := #[] } ∧
      s.heap.get? b = some { cls := .type "tuple", dict := dd, data := .seq ys j, slots := sl } ∧
      R (.ok (.ret Value.none)) { s with heap := s.heap.update l (Obj.mapSeq fun x => x ++ ys), toks := s.toks }) :=
  .of_wp fun prog w A R s h => by
    obtain ⟨hp, g, d, tk, os⟩ := s
    obtain ⟨hl, hb, h⟩ := h
    have f1 := AutoSeq1.idx_int
    have f2 := AutoSeq1.sub_tuple_tuple
    have f3 := AutoSeq1.sub_list_list
    have f4 := AutoSeq1.sub_tuple_list
    have f5 := AutoSeq1.sub_list_tuple
    have fits : (xs ++ ys).size ≤ sizeLine + 1 := by
      rw [Array.size_append]
      exact all
    wp_walk using (wpAny_updateSeq hl rfl (hz := few) (_hz' := fits)), AutoSeq1.wpAny_loadPart' hl, AutoSeq1.wpAny_loadPart' hb
    exact ⟨_, rfl, h⟩
section
variable {X : Cx} {G : XK} {o e : Expr} {es : List Expr} {wo we : DE} {apos cpos pos : Pos}
def rExtT (K : PySem.W.Frag) : V → List V → Hp → VK → Prop := fun x vs H Q => ∃ l b xs zs, x = .ref l ∧ vs = [.ref b] ∧ H l = some (.lst xs) ∧ SqT K H b zs ∧ xs.length + zs.length ≤ sizeLine ∧ Q .non (upd H l (.lst (xs ++ zs)))
theorem mt_extT : MtM X "list.extend" (rExtT X.K) := by
  intro pins s σ H x vs v us Q I rx rv h
  obtain ⟨l, b, xs, zs, rfl, rfl, hH, hB, hz, q⟩ := h
  cases rx
  obtain ⟨u, rfl, ru⟩ := rv.one
  cases ru
  obtain ⟨z, its, n, r, hl, e⟩ := I.lstM hH
  obtain ⟨its2, r2, ⟨⟨cls, dd, dt, sl⟩, e2, hc, n2, hd⟩, _⟩ := I.tuple hB
  simp only at hc hd
  subst hc
  subst hd
  have l2 : zs.length = its2.length := r2.length
  have sz : its.toArray.size + its2.toArray.size ≤ sizeLine := by
    rw [List.size_toArray, List.size_toArray]
    omega
  have nl : ¬ (!its.toArray.isEmpty && Builtin.List.listTooLong (its.toArray.size + its2.toArray.size)) = true := by
    rw [notLongL sz, Bool.and_false]
    decide
  refine call_meets F.slot_list_extend ⟨_, e, rfl⟩ F.entry_list_extend (F.args_list_extend_2 _ _) (meets_extT (i := n) (j := n2) (dd := dd) (sl := sl) nl (by rw [List.size_toArray]; omega) (by omega)) ⟨e, e2, ?_⟩
  refine ⟨.non, _, I.lset (its' := its ++ its2) hH e (by simp) (r.append r2) ?_, rfl, q⟩
  rw [List.length_append]
  exact hz
theorem mt_extB : MtR X "list.extend" (fun x vs H Q => rExtend x vs H Q ∨ rExtT X.K x vs H Q) := MtR.or mt_extend mt_extT
/-- xs.extend(ys), xs in the store -/
def wExt (wo we : DE) : DE := fun ρ M x k => wo ρ M x fun d M1 => ∃ p, d = .obj p ∧ (∃ ds0, M1 p = some (.lst ds0)) ∧ we ρ M1 x fun c M2 => ∃ ds es, M2 p = some (.lst ds) ∧ (view M2 c = .lst es ∨ c = .tup es) ∧ ds.length + es.length ≤ 100000 ∧ k .non (updM M2 p (.lst (ds ++ es)))
theorem xe_extend (ho : XE X G o wo) (he : XE X G e we)
    (hbase : attributeBase o "extend" X.env (eval o X.env) = eval o X.env := by rfl)
    (hfew : ((backTo cpos (starEach [e] X.env)).all (fun x => !x.1) && (backToKw cpos (keywordEach [] X.env)).all (fun x => x.1.isSome)
      && decide (([e] : List Expr).length + ([] : List Keyword).length + (if ([] : List Keyword).isEmpty then 0 else 1) < 30)) = true := by rfl)
    (hline : (apos.endLine == cpos.line) = true := by rfl) (hs : starEach [e] X.env = (false, eval e X.env) :: starEach [] X.env := by rfl) :
    XE X G (.Call (.Attribute o "extend" apos) [e] [] cpos) (wExt wo we) :=
  PE.imp (pe_bm PySem.F.plainAttrs_list PySem.F.slot_list_extend PySem.F.type_list_extend mt_extB ho (pa_cons he pa_nil hs) hbase hfew hline hs (by rfl)) fun σ H Q ⟨ρ, F, M, x, k, a, q, kt⟩ => ⟨ρ, F, M, x, _, a, q, fun v d F1 M1 H1 g1 o1 i1 ⟨p, ed, ⟨ds0, em0⟩, q1⟩ => by
    subst ed
    cases i1
    obtain ⟨_, ob, hp0, mo0⟩ := o1.mu p _ em0
    cases mo0 with
    | lst r0 =>
      refine ⟨.inl ⟨rfl, _, .of hp0⟩, ρ, F1, M1, x, _, a.step g1 o1, q1, fun u c F2 M2 H2 g2 o2 i2 ⟨ds, es, em, ev, hl, q2⟩ => ?_⟩
      obtain ⟨nf, ob, hp, mo⟩ := o2.mu p _ em
      cases mo with
      | lst r =>
        have big : (100000 : Nat) ≤ sizeLine := by decide
        rcases ev with ev | ev
        · obtain ⟨b, zs, rfl, hb, rz⟩ := asLst o2 i2 ev
          refine .inl ⟨p, b, _, zs, rfl, rfl, hp, hb, ?_, kt _ _ F2 _ _ ((g1.trans g2).trans (Gr.put em)) (o2.put nf (.lst (r.app rz)) (o2.mS em)) .non q2⟩
          rw [r.len, rz.len]
          omega
        · obtain ⟨b, zs, rfl, hb, rz, _⟩ := asTup o2 (M := M2) i2 (by rw [ev]; rfl)
          refine .inr ⟨p, b, _, zs, rfl, rfl, hp, hb, ?_, kt _ _ F2 _ _ ((g1.trans g2).trans (Gr.put em)) (o2.put nf (.lst (r.app rz)) (o2.mS em)) .non q2⟩
          rw [r.len, rz.len]
          omega⟩
/-! ### pop, pop(i), reverse, clear -/
theorem IsDs.dropLast {K : PySem.W.Frag} {F : Hp} : ∀ {xs ds}, IsDs K F xs ds → IsDs K F xs.dropLast ds.dropLast
  | _, _, .nil => .nil
  | _, _, .cons h .nil => .nil
  | _, _, .cons h (.cons h2 r) => .cons h (IsDs.dropLast (.cons h2 r))
theorem IsDs.erase {K : PySem.W.Frag} {F : Hp} : ∀ {xs ds} (i : Nat), IsDs K F xs ds → IsDs K F (xs.eraseIdx i) (ds.eraseIdx i)
  | _, _, _, .nil => .nil
  | _, _, 0, .cons _ r => r
  | _, _, i + 1, .cons h r => .cons h (IsDs.erase i r)
/-- xs.pop() -/
def wPop (wo : DE) : DE := fun ρ M x k => wo ρ M x fun d M1 => ∃ p ds c, d = .obj p ∧ M1 p = some (.lst ds) ∧ ds[ds.length - 1]? = some c ∧ k c (updM M1 p (.lst ds.dropLast))
theorem xe_pop (ho : XE X G o wo)
    (hbase : attributeBase o "pop" X.env (eval o X.env) = eval o X.env := by rfl)
    (hline : (apos.endLine == cpos.line) = true := by rfl) :
    XE X G (.Call (.Attribute o "pop" apos) [] [] cpos) (wPop wo) :=
  PE.imp (pe_bm0 PySem.F.plainAttrs_list PySem.F.slot_list_pop PySem.F.type_list_pop mt_pop ho hbase hline) fun σ H Q ⟨ρ, F, M, x, k, a, q, kt⟩ => ⟨ρ, F, M, x, _, a, q, fun v d F1 M1 H1 g1 o1 i1 ⟨p, ds, c, ed, em, ec, q1⟩ => by
    subst ed
    cases i1
    obtain ⟨nf, ob, hp, mo⟩ := o1.mu p _ em
    cases mo with
    | lst r =>
      obtain ⟨y, ey, iy⟩ := r.get _ ec
      exact ⟨.inl ⟨rfl, _, .of hp⟩, p, _, y, rfl, rfl, hp, by rw [r.len]; exact ey, kt _ _ F1 _ _ (g1.trans (Gr.put em)) (o1.put nf (.lst r.dropLast) (o1.mS em)) iy q1⟩⟩
/-- xs.pop(i) -/
def wPopAt (wo we : DE) : DE := fun ρ M x k => wo ρ M x fun d M1 => ∃ p, d = .obj p ∧ (∃ ds0, M1 p = some (.lst ds0)) ∧ we ρ M1 x fun e M2 => ∃ ds i j c, M2 p = some (.lst ds) ∧ e = .int i ∧ -(2 ^ 63) ≤ i ∧ i < 2 ^ 63 ∧ seqIndex? i ds.length = some j ∧ ds[j]? = some c ∧ k c (updM M2 p (.lst (ds.eraseIdx j)))
theorem xe_popAt (ho : XE X G o wo) (he : XE X G e we)
    (hbase : attributeBase o "pop" X.env (eval o X.env) = eval o X.env := by rfl)
    (hfew : ((backTo cpos (starEach [e] X.env)).all (fun x => !x.1) && (backToKw cpos (keywordEach [] X.env)).all (fun x => x.1.isSome)
      && decide (([e] : List Expr).length + ([] : List Keyword).length + (if ([] : List Keyword).isEmpty then 0 else 1) < 30)) = true := by rfl)
    (hline : (apos.endLine == cpos.line) = true := by rfl) (hs : starEach [e] X.env = (false, eval e X.env) :: starEach [] X.env := by rfl) :
    XE X G (.Call (.Attribute o "pop" apos) [e] [] cpos) (wPopAt wo we) :=
  PE.imp (pe_bm PySem.F.plainAttrs_list PySem.F.slot_list_pop PySem.F.type_list_pop mt_popAt ho (pa_cons he pa_nil hs) hbase hfew hline hs (by rfl)) fun σ H Q ⟨ρ, F, M, x, k, a, q, kt⟩ => ⟨ρ, F, M, x, _, a, q, fun v d F1 M1 H1 g1 o1 i1 ⟨p, ed, ⟨ds0, em0⟩, q1⟩ => by
    subst ed
    cases i1
    obtain ⟨_, ob, hp0, mo0⟩ := o1.mu p _ em0
    cases mo0 with
    | lst r0 =>
      refine ⟨.inl ⟨rfl, _, .of hp0⟩, ρ, F1, M1, x, _, a.step g1 o1, q1, fun u c F2 M2 H2 g2 o2 i2 ⟨ds, i, j, c', em, ee, h1, h2, hj, ec, q2⟩ => ?_⟩
      subst ee
      obtain rfl := isD_int i2
      obtain ⟨nf, ob, hp, mo⟩ := o2.mu p _ em
      cases mo with
      | lst r =>
        obtain ⟨y, ey, iy⟩ := r.get _ ec
        exact ⟨p, _, i, j, y, rfl, rfl, hp, h1, h2, by rw [r.len]; exact hj, ey, kt _ _ F2 _ _ ((g1.trans g2).trans (Gr.put em)) (o2.put nf (.lst (r.erase j)) (o2.mS em)) iy q2⟩⟩
/-- xs.reverse(), xs.clear() -/
def wChg (f : List D → List D) (wo : DE) : DE := fun ρ M x k => wo ρ M x fun d M1 => ∃ p ds, d = .obj p ∧ M1 p = some (.lst ds) ∧ k .non (updM M1 p (.lst (f ds)))
theorem xe_reverse (ho : XE X G o wo)
    (hbase : attributeBase o "reverse" X.env (eval o X.env) = eval o X.env := by rfl)
    (hline : (apos.endLine == cpos.line) = true := by rfl) :
    XE X G (.Call (.Attribute o "reverse" apos) [] [] cpos) (wChg List.reverse wo) :=
  PE.imp (pe_bm0 PySem.F.plainAttrs_list PySem.F.slot_list_reverse PySem.F.type_list_reverse mt_reverse ho hbase hline) fun σ H Q ⟨ρ, F, M, x, k, a, q, kt⟩ => ⟨ρ, F, M, x, _, a, q, fun v d F1 M1 H1 g1 o1 i1 ⟨p, ds, ed, em, q1⟩ => by
    subst ed
    cases i1
    obtain ⟨nf, ob, hp, mo⟩ := o1.mu p _ em
    cases mo with
    | lst r => exact ⟨.inl ⟨rfl, _, .of hp⟩, p, _, rfl, rfl, hp, kt _ _ F1 _ _ (g1.trans (Gr.put em)) (o1.put nf (.lst r.rev) (o1.mS em)) .non q1⟩⟩
theorem xe_clear (ho : XE X G o wo)
    (hbase : attributeBase o "clear" X.env (eval o X.env) = eval o X.env := by rfl)
    (hline : (apos.endLine == cpos.line) = true := by rfl) :
    XE X G (.Call (.Attribute o "clear" apos) [] [] cpos) (wChg (fun _ => []) wo) :=
  PE.imp (pe_bm0 PySem.F.plainAttrs_list PySem.F.slot_list_clear PySem.F.type_list_clear mt_clear ho hbase hline) fun σ H Q ⟨ρ, F, M, x, k, a, q, kt⟩ => ⟨ρ, F, M, x, _, a, q, fun v d F1 M1 H1 g1 o1 i1 ⟨p, ds, ed, em, q1⟩ => by
    subst ed
    cases i1
    obtain ⟨nf, ob, hp, mo⟩ := o1.mu p _ em
    cases mo with
    | lst r => exact ⟨.inl ⟨rfl, _, .of hp⟩, p, _, rfl, rfl, hp, kt _ _ F1 _ _ (g1.trans (Gr.put em)) (o1.put nf (.lst .nil) (o1.mS em)) .non q1⟩⟩
/-- a new list: as it is from now on, or in the store -/
def wAny (w : DA) : DE := fun ρ M x k => w ρ M x fun ds M1 => k (.lst ds) M1 ∨ ∀ p, M1 p = none → k (.obj p) (updM M1 p (.lst ds))
theorem rL_any {w : DA} {K : PySem.W.Frag} {σ : L2.St} {H : Hp} {Q : VK} (h : rE K G (wAny w) σ H Q) : rL K G w σ H Q := by
  obtain ⟨ρ, F, M, x, k, a, q, kt⟩ := h
  refine ⟨ρ, F, M, x, _, a, q, fun p vs ds F1 M1 H1 g1 o1 hp e1 f1 m1 i1 q1 => ?_⟩
  rcases q1 with q1 | q1
  · exact kt (.ref p) (.lst ds) _ _ _ (g1.adopt hp f1) (o1.take e1 f1 m1 (fromS g1 a.heap hp)) (.lst upd_same (i1.mono (Same.upd f1))) q1
  · exact kt (.ref p) (.obj p) _ _ _ (g1.adoptM hp) (o1.takeM e1 f1 (.lst i1) (fromS g1 a.heap hp)) .obj (q1 p m1)
theorem xl_any {w : DA} (h : XL X G e w) : XE X G e (wAny w) := PE.imp h fun σ H Q z => rL_any z
end
/-! ### x += e of whole numbers -/
section
variable {X : Cx} {G : XK} {e : Expr} {we : DE} {pos : Pos}
def wAug (i : Nat) (we : DE) : DS := fun E ρ M x => ∃ a, ρ[i]? = some (some (.int a)) ∧ we ρ M x fun d M1 => ∃ b, d = .int b ∧ E.nx (ρ.set i (some (.int (a + b)))) M1
theorem ys_aug {i : Nat} {x : Str} {pos' : Pos} (hN : X.N.Nodup) (hi : X.N[i]? = some x) (hx : Loc X.env.scope x) (he : XE X G e we) (hf : X.fn x = true ∨ X.env.scope.names.lookup x = some .local := by first | exact .inl rfl | exact .inr rfl | assumption) :
    YS X G (.AugAssign (.Name x pos') .Add e pos) (wAug i we) :=
  PS.imp (ps_aug hN hi hx he ip_add hf) fun D σ H ⟨ρ, F, M, x, E, a, ⟨n, en, q⟩, et⟩ => by
    obtain ⟨v, ev, iv⟩ := a.env.at_ i _ en
    obtain rfl := isD_int iv
    refine ⟨_, ev, ρ, F, M, x, _, a, q, fun u d F1 M1 H1 g1 o1 i1 ⟨b, eb, q1⟩ => ?_⟩
    subst eb
    obtain rfl := isD_int i1
    exact ⟨n, b, rfl, rfl, et.nx _ _ F1 M1 H1 g1 o1 ((a.env.mono g1.ex).set i .int) q1⟩
/-! ### while -/
def wWhile (c : DT) (tb : DS) : DS := fun E ρ M x => ∃ W : Nat → DSt → MS → Prop, (∃ m, W m ρ M) ∧ ∀ m ρ' M', W m ρ' M' → c ρ' M' x fun b M1 =>
  if b = true then ∃ N : DSt → MS → Prop, (∀ ρ2 M2, N ρ2 M2 → ∃ m', m' < m ∧ W m' ρ2 M2) ∧ tb { E with nx := N, ct := N, bk := E.nx } ρ' M1 x else E.nx ρ' M1
theorem ys_while {c : Expr} {body : List Stmt} {tc : DT} {tb : DS} (hp : PassesOwn (model X.prog X.w) X.A X.env X.xe) (hc : XT X G c tc) (hb : YSs X G body tb) : YS X G (.While c body [] pos) (wWhile tc tb) :=
  PS.imp (ps_while hp hc hb) fun D σ H ⟨ρ, F, M, x, E, a, ⟨W, ⟨m0, w0⟩, step⟩, et⟩ => by
    refine ⟨fun m σ' H' => ∃ ρ' F' M', EnvOk X.K F' σ' ρ' ∧ Gr F M H F' M' H' ∧ HeapOk X.K F' M' H' ∧ W m ρ' M', ⟨m0, ρ, F, M, a.env, .refl, a.heap, w0⟩, ?_⟩
    rintro m σ' H' ⟨ρ', F', M', en, g', o', w'⟩
    refine ⟨ρ', F', M', x, _, ⟨en, o', a.xok.step g'⟩, step m ρ' M' w', fun b F1 M1 H1 g1 o1 q1 => ?_⟩
    cases b with
    | false =>
      rw [if_neg (by decide)] at q1 ⊢
      exact et.nx σ' ρ' F1 M1 H1 (g'.trans g1) o1 (en.mono g1.ex) q1
    | true =>
      rw [if_pos rfl] at q1 ⊢
      obtain ⟨N, hN, q1⟩ := q1
      have gg := g'.trans g1
      refine ⟨fun σ2 H2 => ∃ ρ2 F2 M2, EnvOk X.K F2 σ2 ρ2 ∧ Gr F M H F2 M2 H2 ∧ HeapOk X.K F2 M2 H2 ∧ N ρ2 M2, fun σ2 H2 ⟨ρ2, F2, M2, en2, g2, o2, n2⟩ => ?_, ?_⟩
      · obtain ⟨m', hm, w2⟩ := hN ρ2 M2 n2
        exact ⟨m', hm, ρ2, F2, M2, en2, g2, o2, w2⟩
      · refine ⟨ρ', F1, M1, x, _, ⟨en.mono g1.ex, o1, a.xok.step gg⟩, q1, ⟨fun σ4 ρ4 F4 M4 H4 g4 o4 en4 z4 => ⟨ρ4, F4, M4, en4, gg.trans g4, o4, z4⟩, fun v d F4 M4 H4 g4 o4 i4 z4 => et.rt v d F4 M4 H4 (gg.trans g4) o4 i4 z4, fun σ4 ρ4 F4 M4 H4 g4 o4 en4 z4 => et.nx σ4 ρ4 F4 M4 H4 (gg.trans g4) o4 en4 z4, fun σ4 ρ4 F4 M4 H4 g4 o4 en4 z4 => ⟨ρ4, F4, M4, en4, gg.trans g4, o4, z4⟩⟩⟩
/-! ### min, max of two, lcm -/
def minC : OC := fun M ds q => ∃ i j, ds = [.int i, .int j] ∧ q (.int (if j < i then j else i))
def maxC : OC := fun M ds q => ∃ i j, ds = [.int i, .int j] ∧ q (.int (if j > i then j else i))
theorem ints2 {K : PySem.W.Frag} {F : Hp} {vs : List V} {i j : Int} (h : IsDs K F vs [.int i, .int j]) : vs = [.int i, .int j] := by
  obtain ⟨v, u, rfl, h1, h2⟩ := isDs2 h
  rw [isD_int h1, isD_int h2]
theorem l_minC : LiftsC X.K minC (fun xs H Q => ∃ i j, xs = [.int i, .int j] ∧ Q (.int (if j < i then j else i)) H) := fun F M H vs ds q Q o i ⟨a, b, ed, h⟩ kt => by
  subst ed
  exact ⟨a, b, ints2 i, kt _ _ F H .refl o .int h⟩
theorem l_maxC : LiftsC X.K maxC (fun xs H Q => ∃ i j, xs = [.int i, .int j] ∧ Q (.int (if j > i then j else i)) H) := fun F M H vs ds q Q o i ⟨a, b, ed, h⟩ kt => by
  subst ed
  exact ⟨a, b, ints2 i, kt _ _ F H .refl o .int h⟩
def lcmC : OC := fun M ds q => ∃ i j, ds = [.int i, .int j] ∧ i.natAbs < 2 ^ 64 ∧ j.natAbs < 2 ^ 64 ∧ q (.int ((i.natAbs.lcm j.natAbs : Nat) : Int))
def rLcm : List V → Hp → VK → Prop := fun vs H Q => ∃ a b : Int, vs = [.int a, .int b] ∧ a.natAbs < 2 ^ 64 ∧ b.natAbs < 2 ^ 64 ∧ Q (.int ((a.natAbs.lcm b.natAbs : Nat) : Int)) H
theorem cr_lcm : CallR X (.builtin "math.lcm") rLcm := by
  intro pins s σ H vs us Q I r h
  obtain ⟨a, b, rfl, ha, hb, q⟩ := h
  obtain ⟨t, u, rfl⟩ := Vals.int2 r
  exact PySem.W.mc_lcm ha hb fun _ => ⟨.int _, H, I.tok _, ⟨_, rfl⟩, q⟩
theorem l_lcmC : LiftsC X.K lcmC rLcm := fun F M H vs ds q Q o i ⟨a, b, ed, h1, h2, h⟩ kt => by
  subst ed
  exact ⟨a, b, ints2 i, h1, h2, kt _ _ F H .refl o .int h⟩
end
end TV

set_option Elab.async false
set_option linter.all false
set_option maxRecDepth 100000
set_option maxHeartbeats 1000000
/-! Own classes: == and != by an own __eq__, len by an own __len__, isinstance, defaults. -/
namespace TV
open PySem PySem.Spec PyProof.Rows L2

/-! ### at the model's level -/
section
variable {prog : Program} {w : World} {A : Around} {E : Value → Shared → Prop} {s : Shared} {K : PySem.W.Frag} {x C L f : Addr} {h₀ : Heap} {m : Str → Option Value} {ox : Obj} {od : Option Obj} {b tb : Value}
theorem bound_blt {M : Model} {id : String} {name : Str} {args : List Value} {Q : Option Value → Shared → Prop} (inK : K.In s.heap) (I : PySem.W.InstAt s.heap x ox C od) (at_ : PySem.W.findIn K (.ref C) name = some (some (.builtin id)))
    (bd : ∀ self, bindSpecial (.builtin id) self = pure (.builtin id, [self])) (go : wpAny M A (call (.builtin id) (.ref x :: args)) (fun v => Q (some v)) E s) : wpAny M A (callSpecialIfBound? (.ref x) name args) Q E s := by
  simp only [callSpecialIfBound?, bindSpecialIfBound?]
  refine wpAny_holding (wpAny_bind (wpAny_bind (wpAny_bind (I.type.here ((PySem.W.looks_findIn inK at_).here ?_)))))
  have last : wpAny M A (call (.builtin id) ([.ref x] ++ args) >>= fun v => pure (some v)) Q E s := wpAny_bind (wpAny_mono go (fun v s' z => wpAny_pure z) fun _ _ z => z)
  refine wpAny_bind (wpAny_askSetting (wpAny_ite ?_))
  split
  · exact wpAny_bind ((PySem.W.Looks.of_pure (bd (.ref x))).here (wpAny_pure (by exact last)))
  · exact wpAny_tryCatch (wpAny_bind ((PySem.W.Looks.of_pure (bd (.ref x))).here (wpAny_pure (by exact last))))
theorem ne_body {Q : Fin → Shared → Prop} (hu : A.units < cLine) (inK : K.In s.heap) (I : PySem.W.InstAt s.heap x ox C od) (at_ : PySem.W.findIn K (.ref C) "__eq__" = some (some (.ref f))) (hf : PySem.W.isFn K (.ref f) = true)
    (go : wpAny (model prog w) A (call (.ref f) [.ref x, b]) (fun v s' => ∃ r, v = .bool r ∧ Q (.done (.ret (.bool (!r)))) s') E s) : wpAny (model prog w) A (Builtin.«object.__ne__» ⟨[.ref x, b], []⟩) Q E s := by
  unfold Builtin.«object.__ne__»
  have one : wpAny (model prog w) A (callSpecialIfBound? (.ref x) "__eq__" [b]) (fun r s' => ∃ q, r = some (.bool q) ∧ Q (.done (.ret (.bool (!q)))) s') E s :=
    PySem.W.ifBound_K inK I at_ hf (wpAny_mono go (fun v s' ⟨r, e, q⟩ => ⟨r, by rw [e], q⟩) fun _ _ z => z)
  repeat (first | with_reducible refine wpAny_cRoomFor hu ?_ | (with_reducible refine wpAny_mono one (fun r s' z => ?_) fun _ _ z => z) | wp_step)
  obtain ⟨q, rfl, z⟩ := z
  repeat wp_step
  exact z
theorem ne_own {Q : Value → Shared → Prop} (hu : A.units + 1 < cLine) (F : PyProof.Rows.Fr h₀ L s.heap m) (K0 : K.In h₀) (I : PySem.W.InstAt s.heap x ox C od) (tyb : PySem.W.Looks (model prog w) s.heap (typeOf b) tb) (nf : PySem.W.notFirst K C tb = true)
    (ne_ : PySem.W.findIn K (.ref C) "__ne__" = some (some (.builtin "object.__ne__"))) (eq_ : PySem.W.findIn K (.ref C) "__eq__" = some (some (.ref f))) (hf : PySem.W.isFn K (.ref f) = true) (ob : PySem.W.mroIn K C (.type "object") = some true)
    (go : wpAny (model prog w) A.in1 (call (.ref f) [.ref x, b]) (fun v s' => ∃ r, v = .bool r ∧ Q (.bool (!r)) s') E s) : wpAny (model prog w) A (richCompare .NotEq (.ref x) b) Q E s := by
  have inK := K0.keeps F.keep
  have sub : PySem.W.Looks (model prog w) s.heap (isInstance (.ref x) (.type "object")) true := I.type.andThen (PySem.W.looks_mroIn inK ob)
  have one : wpAny (model prog w) A (tryCompare (.ref x) "__ne__" b) (fun r s' => ∃ v, r = some v ∧ Q v s') E s := by
    unfold tryCompare
    refine wpAny_bind (bound_blt inK I ne_ PySem.F.cmp_object.ne.bind (wpAny_call (codeAny_call_builtin PySem.F.cmp_object.ne.plain PySem.F.cmpEntry_ne
      (@PySem.W.check_slot (model prog w) _ _ s "object.__ne__" "object" "__ne__" (.ref x) [b] [] _ PySem.F.cmpKind_ne PySem.F.cmpSplit_ne sub (PySem.F.cmpArgs_ne _ _) (ne_body (A := A.in1) hu inK I eq_ hf (wpAny_mono go (fun v s' ⟨r, e, q⟩ => ⟨r, e, ?_⟩) fun _ _ z => z))))))
    exact wpAny_pure ⟨_, rfl, q⟩
  have tail : wpAny (model prog w) A (do if let some v ← tryCompare (.ref x) "__ne__" b then return v else pure (.bool false)) Q E s := by
    refine wpAny_bind (wpAny_mono one (fun r s' ⟨v, e, q⟩ => ?_) fun _ _ z => z)
    subst e
    exact wpAny_pure q
  simp only [richCompare, cmpInfo_NotEq, oneThing_ref]
  refine wpAny_holding (wpAny_bind (wpAny_cRoomFor (Nat.lt_of_succ_lt hu) ?_))
  refine wpAny_bind (I.type.here (wpAny_bind (tyb.here ?_)))
  split
  · rename_i q
    have no : PySem.W.subIn K tb (.ref C) = some false := by
      rcases Bool.or_eq_true_iff.mp nf with e | e
      · rw [beq_iff_eq.mp e] at q
        simp at q
      · exact beq_iff_eq.mp e
    refine wpAny_bind ((PySem.W.looks_subIn inK no).here ?_)
    simp only [Bool.false_eq_true, if_false]
    refine wpAny_bind (wpAny_mono one (fun r s' z => ?_) fun _ _ e => e)
    obtain ⟨v, rfl, hq⟩ := z
    exact wpAny_pure hq
  · refine wpAny_bind (wpAny_pure ?_)
    simp only [Bool.false_eq_true, if_false]
    refine wpAny_bind (wpAny_mono one (fun r s' z => ?_) fun _ _ e => e)
    obtain ⟨v, rfl, hq⟩ := z
    exact wpAny_pure hq
end
/-! ### over values -/
/-- an own class with its own == -/
structure EqC (K : PySem.W.Frag) (C f : Addr) : Prop where
  eq_ : PySem.W.findIn K (.ref C) "__eq__" = some (some (.ref f))
  ne_ : PySem.W.findIn K (.ref C) "__ne__" = some (some (.builtin "object.__ne__"))
  fn : PySem.W.isFn K (.ref f) = true
  ob : PySem.W.mroIn K C (.type "object") = some true
/-- an own class, for isinstance -/
structure TyC (K : PySem.W.Frag) (C : Addr) : Prop where
  cl : Cls K C
  ha : PySem.W.findIn K (.ref C) "__class__" = some (some (.builtin "object.__class__"))
  hn : PySem.W.specialIn K (.builtin "object.__class__") "__get__" = some (some (.builtin "getset_descriptor.__get__"))
  htk : PySem.W.takesIn K (.builtin "object.__class__") = some true
  ob : PySem.W.mroIn K C (.type "object") = some true
theorem Rm.in1 {k : Nat} {A : Around} (r : Rm (k + 1) A) : Rm k A.in1 := ⟨r.room.in1, r.grd⟩
section
variable {X : Cx} {CX : CXT} {k : Nat} {f C : Addr} {fd : FuncData} {ps : List Str} {sp : Sp} {E : XK}
theorem goesAt {A : Around} {pins : List (Addr × Obj)} {σ : L2.St} {H : Hp} {s : Shared} {Q : VK} {us : List Value} {vs : List V} (F : FnG X.prog X.w X.K X.mg X.base CX k f fd ps sp) (rm : Rm k A) (fr : A.frames = X.A.frames) (bound : Binds X.K fd ps []) (out : Passes CX X E)
    (I : Inv X pins σ H s) (rel : Vals vs us) (asked : sp vs H Q E) : wpAny (model X.prog X.w) A (call (.ref f) us) (EP X pins σ Q) X.xe s := by
  have count : (us ++ []).length = ps.length := by rw [List.append_nil, ← rel.length]; exact F.many _ _ _ _ asked
  have e0 := I.env0
  have e1 : Env0 X.prog X.w X.K X.mg X.base A X.stack s H := ⟨by rw [fr]; exact e0.frames, e0.mod, e0.bs, e0.bsz, e0.funs, e0.frf, e0.hok, e0.bare⟩
  refine wpAny_call (codeAny_mono (F.goes A X.stack s H ⟨us, []⟩ us vs Q E rm e1 (by have := bound s us I.kIn count; rwa [List.append_nil] at this) rel asked) fun r s' over => ?_)
  rcases r with e | fl
  · exact out pins σ H s e s' I over
  · cases fl with
    | ret u => exact I.after over
    | next => exact over.elim
    | brk => exact over.elim
    | cont => exact over.elim
def rEqO (X : Cx) (C : Addr) (neg : Bool) (sp : Sp) (E : XK) : R2 := fun x y H Q => ∃ a dx fs t, x = .ref a ∧ H a = some (.ins C dx fs) ∧ TyX X.K H y t ∧ PySem.W.notFirst X.K C t = true ∧ sp [x, y] H (fun v H' => ∃ r, v = .bl r ∧ Q (.bl (if neg then !r else r)) H') E
theorem op_eqO (c : EqC X.K C f) (F : FnG X.prog X.w X.K X.mg X.base CX k f fd ps sp) (rm : Rm (k + 1) X.A) (hb : Binds X.K fd ps []) (hx : Passes CX X E) : OpR X (compareOp .Eq) (rEqO X C false sp E) := by
  intro pins s σ H x y v u Q I rx ry hq
  obtain ⟨a, dx, fs, t, rfl, ha, ty, nf, q⟩ := hq
  cases rx
  obtain ⟨mA, J, _⟩ := ins_get I.hok ha
  obtain ⟨od, J, _⟩ := J.look
  obtain ⟨m, hF⟩ := I.fr
  obtain ⟨P, kit, hP, _⟩ := kit_of I ry ty
  show wpAny (model X.prog X.w) X.A (richCompare .Eq (.ref a) u) (EP X pins σ Q) X.xe s
  refine PySem.W.cmp_K (op := .Eq) rm.room.units0 hF I.ok.mod.kin J (kit.ty _ _ I.kIn hP) nf c.eq_ c.fn ?_
  refine wpAny_mono (goesAt (vs := [.ref a, y]) (us := [.ref a, u]) F (rm.mono (Nat.le_succ _)) rfl hb hx I (.cons rfl (.cons ry .nil)) q) (fun v s' z => ?_) fun _ _ z => z
  obtain ⟨w, H', I', rw', r, ew, q'⟩ := z
  subst ew
  cases rw'
  exact ⟨.bl r, H', I', rfl, q'⟩
theorem op_neO (c : EqC X.K C f) (F : FnG X.prog X.w X.K X.mg X.base CX k f fd ps sp) (rm : Rm (k + 1) X.A) (hb : Binds X.K fd ps []) (hx : Passes CX X E) : OpR X (compareOp .NotEq) (rEqO X C true sp E) := by
  intro pins s σ H x y v u Q I rx ry hq
  obtain ⟨a, dx, fs, t, rfl, ha, ty, nf, q⟩ := hq
  cases rx
  obtain ⟨mA, J, _⟩ := ins_get I.hok ha
  obtain ⟨od, J, _⟩ := J.look
  obtain ⟨m, hF⟩ := I.fr
  obtain ⟨P, kit, hP, _⟩ := kit_of I ry ty
  show wpAny (model X.prog X.w) X.A (richCompare .NotEq (.ref a) u) (EP X pins σ Q) X.xe s
  refine ne_own rm.u1 hF I.ok.mod.kin J (kit.ty _ _ I.kIn hP) nf c.ne_ c.eq_ c.fn c.ob ?_
  refine wpAny_mono (goesAt (vs := [.ref a, y]) (us := [.ref a, u]) F rm.in1 rfl hb hx I (.cons rfl (.cons ry .nil)) q) (fun v s' z => ?_) fun _ _ z => z
  obtain ⟨w, H', I', rw', r, ew, q'⟩ := z
  subst ew
  cases rw'
  exact ⟨r, rfl, .bl (!r), H', I', rfl, q'⟩
def rLenO (C : Addr) (sp : Sp) (E : XK) : List V → Hp → VK → Prop := fun xs H Q => ∃ a dx fs, xs = [.ref a] ∧ H a = some (.ins C dx fs) ∧ sp [.ref a] H (fun v H' => ∃ n : Int, v = .int n ∧ 0 ≤ n ∧ n < 2 ^ 63 ∧ Q (.int n) H') E
theorem call_lenO (at_ : PySem.W.findIn X.K (.ref C) "__len__" = some (some (.ref f))) (fn : PySem.W.isFn X.K (.ref f) = true) (F : FnG X.prog X.w X.K X.mg X.base CX k f fd ps sp) (rm : Rm (k + 1) X.A) (hb : Binds X.K fd ps []) (hx : Passes CX X E) : CallR X (.builtin "len") (rLenO C sp E) := by
  intro pins s σ H xs us Q I r hq
  obtain ⟨a, dx, fs, rfl, ha, q⟩ := hq
  obtain ⟨u, rfl, ru⟩ := r.one
  cases ru
  obtain ⟨mA, J, _⟩ := ins_get I.hok ha
  obtain ⟨od, J, _⟩ := J.look
  obtain ⟨m, hF⟩ := I.fr
  refine PySem.W.len_K hF I.ok.mod.kin J at_ fn ?_
  refine wpAny_mono (goesAt (vs := [.ref a]) (us := [.ref a]) F rm.in1 rfl hb hx I (.cons rfl .nil) q) (fun v s' z => ?_) fun _ _ z => z
  obtain ⟨w, H', I', rw', n, ew, h0, h1, q'⟩ := z
  subst ew
  obtain ⟨t, rfl⟩ := rw'
  exact ⟨⟨h0, h1⟩, .int n, H', I'.tok _, ⟨_, rfl⟩, q'⟩
end
/-! ### over trees -/
theorem subIn_ty {K : PySem.W.Frag} {C : Addr} : ∀ T ∈ tyNames, PySem.W.subIn K (.type T) (.ref C) = some false := by
  intro T h
  simp only [tyNames, List.mem_cons, List.not_mem_nil, or_false] at h
  rcases h with rfl | rfl | rfl | rfl | rfl | rfl | rfl <;> rfl
/-- an instance of C, or plain data -/
def okO (C : Addr) (M : MS) (e : D) : Prop := (∃ fs, view M e = .ins C fs) ∨ ∃ T, tyD (view M e) = some T
theorem okO_ty {K : PySem.W.Frag} {C : Addr} {F H : Hp} {M : MS} {v : V} {d : D} (c : TyC K C) (o : HeapOk K F M H) (i : IsD K F v d) (h : okO C M d) : ∃ t, TyX K H v t ∧ PySem.W.notFirst K C t = true := by
  rcases h with ⟨fs, e⟩ | ⟨T, e⟩
  · obtain ⟨a, dx, gs, rfl, ea, _⟩ := asIns o i e
    refine ⟨.ref C, .base (.ins ea c.cl c.ha c.hn c.htk c.ob), ?_⟩
    unfold PySem.W.notFirst
    rw [beq_self_eq_true, Bool.true_or]
  · refine ⟨.type T, ty_of o i e, ?_⟩
    unfold PySem.W.notFirst
    rw [subIn_ty T (tyD_mem e)]
    simp
section
variable {X : Cx} {CX : CXT} {G : XK} {k : Nat} {f C : Addr} {fd : FuncData} {ps : List Str} {sp : DSp} {a b e : Expr} {es : List Expr} {wa wb we : DE} {w : DA} {pos p : Pos} {x : Str}
def wEqO (C : Addr) (neg : Bool) (sp : DSp) (wa wb : DE) : DE := fun ρ M x k => wa ρ M x fun d M1 => wb ρ M1 x fun e M2 => (∃ fs, view M2 d = .ins C fs) ∧ okO C M2 e ∧ sp [d, e] M2 x fun r M3 => ∃ q, r = .bl q ∧ k (.bl (if neg then !q else q)) M3
theorem tEqO_of {neg : Bool} (c : TyC X.K C) {σ : L2.St} {H : Hp} {Q : VK} (h : rE X.K G (wEqO C neg sp wa wb) σ H Q) : tOp (rEqO X C neg (rSp X.K sp) G) (rE X.K G wa) (rE X.K G wb) σ H Q := by
  obtain ⟨ρ, F, M, x, k, a, q, kt⟩ := h
  refine ⟨ρ, F, M, x, _, a, q, fun v d F1 M1 H1 g1 o1 i1 q1 => ?_⟩
  refine ⟨ρ, F1, M1, x, _, a.step g1 o1, q1, fun u e F2 M2 H2 g2 o2 i2 ⟨⟨fs, ev⟩, ok, q2⟩ => ?_⟩
  obtain ⟨ad, dx, gs, rfl, ea, _⟩ := asIns o2 (i1.mono g2.ex) ev
  obtain ⟨t, ty, nf⟩ := okO_ty c o2 i2 ok
  refine ⟨ad, dx, gs, t, rfl, ea, ty, nf, [d, e], F2, M2, x, _, o2, .cons (i1.mono g2.ex) (.cons i2 .nil), q2, fun v r F3 M3 H3 g3 o3 i3 ⟨z, ez, q3⟩ => ?_, (a.xok.step g1).step g2⟩
  subst ez
  exact ⟨z, isD_bl i3, kt _ _ F3 M3 H3 ((g1.trans g2).trans g3) o3 .bl q3⟩
theorem xe_eqO (c : EqC X.K C f) (tc : TyC X.K C) (F : FnG X.prog X.w X.K X.mg X.base CX k f fd ps (rSp X.K sp)) (rm : Rm (k + 1) X.A) (hb : Binds X.K fd ps []) (hx : Passes CX X G) (ha : XE X G a wa) (hb' : XE X G b wb) (hm : behindInMarks .Eq b = false) :
    XE X G (.Compare a [.Eq] [b] pos) (wEqO C false sp wa wb) := PE.imp (pe_cmpR (op_eqO c F rm hb hx) ha hb' hm) fun σ H Q h => tEqO_of tc h
theorem xe_neO (c : EqC X.K C f) (tc : TyC X.K C) (F : FnG X.prog X.w X.K X.mg X.base CX k f fd ps (rSp X.K sp)) (rm : Rm (k + 1) X.A) (hb : Binds X.K fd ps []) (hx : Passes CX X G) (ha : XE X G a wa) (hb' : XE X G b wb) (hm : behindInMarks .NotEq b = false) :
    XE X G (.Compare a [.NotEq] [b] pos) (wEqO C true sp wa wb) := PE.imp (pe_cmpR (op_neO c F rm hb hx) ha hb' hm) fun σ H Q h => tEqO_of tc h
theorem xt_eqO (c : EqC X.K C f) (tc : TyC X.K C) (F : FnG X.prog X.w X.K X.mg X.base CX k f fd ps (rSp X.K sp)) (rm : Rm (k + 1) X.A) (hb : Binds X.K fd ps []) (hx : Passes CX X G) (ha : XE X G a wa) (hb' : XE X G b wb) (hm : behindInMarks .Eq b = false) :
    XT X G (.Compare a [.Eq] [b] pos) (wTest (wEqO C false sp wa wb)) := PT.imp (pt_cmpR (op_eqO c F rm hb hx) ha hb' hm) fun σ H Q h => tTest_of (fun _ _ _ z => tEqO_of tc z) h
theorem xt_neO (c : EqC X.K C f) (tc : TyC X.K C) (F : FnG X.prog X.w X.K X.mg X.base CX k f fd ps (rSp X.K sp)) (rm : Rm (k + 1) X.A) (hb : Binds X.K fd ps []) (hx : Passes CX X G) (ha : XE X G a wa) (hb' : XE X G b wb) (hm : behindInMarks .NotEq b = false) :
    XT X G (.Compare a [.NotEq] [b] pos) (wTest (wEqO C true sp wa wb)) := PT.imp (pt_cmpR (op_neO c F rm hb hx) ha hb' hm) fun σ H Q h => tTest_of (fun _ _ _ z => tEqO_of tc z) h
/-- len(o) -/
def wLenO (C : Addr) (sp : DSp) (w : DA) : DE := fun ρ M x k => w ρ M x fun ds M1 => ∃ d fs, ds = [d] ∧ view M1 d = .ins C fs ∧ sp [d] M1 x fun r M2 => ∃ n : Int, r = .int n ∧ 0 ≤ n ∧ n < 2 ^ 63 ∧ k (.int n) M2
theorem xe_lenO (at_ : PySem.W.findIn X.K (.ref C) "__len__" = some (some (.ref f))) (fn : PySem.W.isFn X.K (.ref f) = true) (F : FnG X.prog X.w X.K X.mg X.base CX k f fd ps (rSp X.K sp)) (rm : Rm (k + 1) X.A) (hb : Binds X.K fd ps []) (hx : Passes CX X G)
    (hg : Gl X "len") (hm : X.mg "len" = none) (ha : XA X G (e :: es) w) (he : starEach (e :: es) X.env = (false, eval e X.env) :: starEach es X.env := by rfl) (hpl : (backTo pos (starEach es X.env)).any (·.1) = false := by rfl) :
    XE X G (.Call (.Name "len" p) (e :: es) [] pos) (wLenO C sp w) :=
  PE.imp (pe_callB (call_lenO (E := G) at_ fn F rm hb hx) hg hm boot_len ha (he := he) (hpl := hpl)) fun σ H Q ⟨ρ, F0, M, x, k, a, q, kt⟩ => ⟨ρ, F0, M, x, _, a, q, fun vs ds F1 M1 H1 g1 o1 i1 ⟨d, fs, ed, ev, q1⟩ => by
    subst ed
    obtain ⟨v, rfl, iv⟩ := isDs1 i1
    obtain ⟨ad, dx, gs, rfl, ea, _⟩ := asIns o1 iv ev
    refine ⟨ad, dx, gs, rfl, ea, [d], F1, M1, x, _, o1, i1, q1, fun v r F3 M3 H3 g3 o3 i3 ⟨n, en, h0, h1, q3⟩ => ?_, a.xok.step g1⟩
    subst en
    exact ⟨n, isD_int i3, h0, h1, kt _ _ F3 M3 H3 (g1.trans g3) o3 .int q3⟩⟩
/-- isinstance(x, C), C an own class -/
def isiO (C : Addr) : OC := fun M ds q => ∃ d, ds = [d, .obj C] ∧ ((∃ fs, view M d = .ins C fs) ∧ q (.bl true) ∨ (∃ T, tyD (view M d) = some T) ∧ q (.bl false))
theorem l_isiO (c : TyC X.K C) (no : ∀ T ∈ tyNames, PySem.W.kitOne X.K (.type T) (.ref C) = some false) : LiftsC X.K (isiO C) (rIsi X.K) := fun F M H vs ds q Q o i ⟨d, ed, h⟩ kt => by
  subst ed
  obtain ⟨v, u, rfl, i1, i2⟩ := isDs2 i
  cases i2
  rcases h with ⟨⟨fs, e⟩, h⟩ | ⟨⟨T, e⟩, h⟩
  · obtain ⟨a, dx, gs, rfl, ea, _⟩ := asIns o i1 e
    exact ⟨_, _, .ref C, .ref C, true, rfl, .own C, .base (.ins ea c.cl c.ha c.hn c.htk c.ob), by unfold PySem.W.kitOne; rw [if_pos (beq_self_eq_true _)], kt _ _ F H .refl o .bl h⟩
  · exact ⟨_, _, .type T, .ref C, false, rfl, .own C, ty_of o i1 e, no T (tyD_mem e), kt _ _ F H .refl o .bl h⟩
/-! ### defaults -/
variable {dvs : List V} {dds : List D} {us : List Value}
theorem xmakeD (Mk : Mk X.K C f) (F : FnG X.prog X.w X.K X.mg X.base CX k f fd ps (rSp X.K sp)) (hr : Rm (k + 1) X.A) (hg : Gl X x) (hm : X.mg x = some (.ref C)) (hb : Binds X.K fd ps us) (hd : Vals dvs us) (hdd : ∀ F, IsDs X.K F dvs dds) (hx : Passes CX X G) (ha : XA X G (e :: es) w)
    (hdb : (x == ("__debug__" : Str)) = false := by decide) (he : starEach (e :: es) X.env = (false, eval e X.env) :: starEach es X.env := by rfl) (hpl : (backTo pos (starEach es X.env)).any (·.1) = false := by rfl) :
    XE X G (.Call (.Name x p) (e :: es) [] pos) (wMake C (fun ds => sp (ds ++ dds)) w) :=
  PE.imp (pe_makeG Mk F hr hg hm hb hd hx ha hdb he hpl) fun σ H Q ⟨ρ, F0, M, xd, k, a, q, kt⟩ => ⟨ρ, F0, M, xd, _, a, q, fun vs ds F1 M1 H1 g1 o1 i1 q1 => by
    intro px dx hpx hdx hne
    have hpx' : (upd H1 dx (.own px)) px = none := by rw [upd_ne (fun z => hne z.symm)]; exact hpx
    have ga : Gr F1 M1 H1 F1 M1 (upd H1 dx (.own px)) := .newU hdx
    have oa : HeapOk X.K F1 M1 (upd H1 dx (.own px)) := o1.newU hdx
    have gb : Gr F1 M1 H1 F1 (updM M1 px (.ins C [])) (upd (upd H1 dx (.own px)) px (.ins C dx [])) := ga.trans (.newM hpx')
    have ob : HeapOk X.K F1 (updM M1 px (.ins C [])) (upd (upd H1 dx (.own px)) px (.ins C dx [])) := oa.put (oa.noF hpx') (.ins .nil) (o1.noS hpx)
    refine ⟨.obj px :: (ds ++ dds), F1, updM M1 px (.ins C []), xd, _, ob, .cons .obj (i1.app (hdd F1)), q1 px (o1.noM hpx), fun v d F3 M3 H3 g3 o3 i3 ⟨ed, q3⟩ => ?_, (a.xok.step g1).step gb⟩
    subst ed
    exact ⟨by cases i3; rfl, kt _ _ F3 M3 H3 ((g1.trans gb).trans g3) o3 .obj q3⟩⟩
end
section
variable {P : Program} {w : World} {K : PySem.W.Frag} {mg : Str → Option Value} {base : Heap} {CX : CXT}
/-- a def of the text that has defaults, by its body -/
theorem fnG_ofD {k : Nat} {f : Addr} {x qual : Str} {params : Arguments} {body : List Stmt} {scope : Scope} {dvs : List V} {kws : List (Str × V)} {fd : FuncData} {N ps : List Str} {sp : Sp} (F : FunD K x qual params body scope dvs kws f fd) (S : FnScope N ps scope) (many : ∀ vs H Q E, sp vs H Q E → vs.length = ps.length)
    (hbody : ∀ (cdv : Value) (A : Around) (outer : List Env) (s : Shared) (H : Hp) (vs : List V) (Q : VK) (E : XK), Rm k (A.deeper (envOfC qual scope s.heap.objs.size f cdv)) → sp vs H Q E →
      ∃ t, PSs (cxOf CX P w K mg base N qual scope f cdv A outer s H E) body t ∧ t { nx := fun _ H' => Q .non H', rt := Q } (L2.start N vs) H) :
    FnG P w K mg base CX (k + 1) f fd ps sp := by
  obtain ⟨oc, od, dV, kV, doc, pm, an, cdv, ct, osl, rfl, found, coded, _, _⟩ := F.ex
  refine ⟨many, fun A outer s H args us vs Q E rm e0 bound rel asked => ?_⟩
  have count := many _ _ _ _ asked
  have inK : K.In s.heap := e0.mod.kin.keeps fun b o e => (e0.bs b o e).1
  have free : s.heap.NoLimit := e0.mod.nolimit.keeps fun b o e => (e0.bs b o e).1
  have kinds : ∀ y ∈ ps.zip us, scope.names.lookup y.1 = some .local ∨ (scope.names.lookup y.1 = some .cell ∧ ((cellsFrom (s.heap.objs.size + 1) scope.names []).lookup y.1).isSome = true) := by
    intro ⟨n, v⟩ mem
    rcases S.par n (List.of_mem_zip mem).1 with q | q
    · exact .inl q
    · exact .inr ⟨q, PySem.W.cellsFrom_some _ _ _ (.inl q)⟩
  refine codeAny_call_function rm.room.depth (inK _ _ found) rfl S.co S.gen rfl (PySem.W.codeRec_of inK coded) (bound _ _ _ _ ?_)
  refine wpAny_newFunctionEnv_cells S.kind kinds fun env same s1 x => ?_
  subst same
  refine ⟨free.keeps x.toInCall.keep, codeAny_func ?_⟩
  obtain ⟨t, derived, holds⟩ := hbody cdv A outer s H vs Q E (rm.deeper _) asked
  have I := inv_start (CX := CX) (E := E) (N := N) S rm.room.hd e0 count rel x
  have ends : ∀ {σ' : L2.St} {H' : Hp} {v : V} {u : Value} {s' : Shared}, Inv (cxOf CX P w K mg base N qual scope f cdv A outer s H E) [] σ' H' s' → RelV v u → Q v H' → CE outer P w H s Q u s' :=
    fun {σ' H' v u s'} J rv q => ⟨v, H', J.os, J.bare, J.base, J.hok, rv, q⟩
  refine wpAny_mono (derived.run [] s1 (L2.start N vs) H _ I holds) (fun fl s' over => ?_) fun e s' z => z
  cases fl with
  | ret u => obtain ⟨v, σ', H', J, rv, q⟩ := over; exact ends J rv q
  | next => obtain ⟨σ', H', J, q⟩ := over; exact ends (v := V.non) (u := Value.none) J rfl q
  | brk => obtain ⟨_, _, _, q⟩ := over; exact q.elim
  | cont => obtain ⟨_, _, _, q⟩ := over; exact q.elim
/-- THE RULE for such a def -/
theorem fnTD {x qual : Str} {st : Stmt} {f : Addr} {fd : FuncData} {dvs : List V} {kws : List (Str × V)} {N ps : List Str} {k : Nat} {sp : DSp} (F : FunD K x qual (defArgs st) (defBody st) (defScope st) dvs kws f fd) (S : FnScope N ps (defScope st)) (len : ∀ ds M x k, sp ds M x k → ds.length = ps.length)
    (hN : ps.length ≤ N.length)
    (hbody : ∀ (cdv : Value) (A : Around) (outer : List Env) (s : Shared) (H : Hp) (E : XK), Rm k (A.deeper (envOfC qual (defScope st) s.heap.objs.size f cdv)) →
      ∃ w', YSs (cxOf CX P w K mg base N qual (defScope st) f cdv A outer s H E) E (defBody st) w' ∧
        ∀ ds M xx kk, sp ds M xx kk → w' { nx := fun _ M => kk .non M, rt := kk } (start0 N ds) M xx) :
    FnG P w K mg base CX (k + 1) f fd ps (rSp K sp) := by
  refine fnG_ofD F S (fun vs H Q E h => ?_) (fun cdv A outer s H vs Q E hr h => ?_)
  · obtain ⟨ds, F, M, x, kk, o, i, q, _⟩ := h
    rw [i.len]
    exact len _ _ _ _ q
  · obtain ⟨w', hw, hq⟩ := hbody cdv A outer s H E hr
    refine ⟨_, hw, ?_⟩
    obtain ⟨ds, F, M, x, kk, o, i, q, kt, xo⟩ := h
    refine ⟨start0 N ds, F, M, x, _, ⟨start_env i (by rw [len _ _ _ _ q]; exact hN), o, xo⟩, hq ds M x kk q, ⟨fun σ' ρ' F' M' H' g o' en z => ?_, fun v d F' M' H' g o' i' z => kt v d F' M' H' g o' i' z, fun _ _ _ _ _ _ _ _ z => z.elim, fun _ _ _ _ _ _ _ _ z => z.elim⟩⟩
    exact kt .non .non F' M' H' g o' .non z
end
end TV

set_option Elab.async false
set_option linter.all false
set_option maxRecDepth 100000
set_option maxHeartbeats 2000000
/-! Dicts that the top has written; sum of lists; len(set(texts)); two fors. -/
namespace TV
open PySem PySem.Spec PyProof.Rows L2

/-! ### a dict of the top: texts to whole numbers -/
structure KTab (K : PySem.W.Frag) (w : World) (p : Addr) (tab : List (Str × Int)) : Prop where
  hit : ∀ z i, tab.lookup z = some i → KDct K w p z (.int i)
  low : (p == sysModules) = false
section
variable {X : Cx} {G : XK} {a b e : Expr} {wa wb : DE} {pos : Pos}
def kgetD (p : Addr) (tab : List (Str × Int)) : OD := fun M d e q => d = .obj p ∧ ∃ z i, e = .str z ∧ tab.lookup z = some i ∧ q (.int i)
theorem l_kgetD {p : Addr} {tab : List (Str × Int)} (t : KTab X.K X.w p tab) : Lifts X.K (kgetD p tab) (rIxD X.K X.w) := fun F M H v u d e q Q o i1 i2 ⟨ed, z, i, ee, l, h⟩ kt => by
  subst ed
  subst ee
  cases i1
  exact ⟨p, z, .int i, rfl, isD_str i2, t.hit z i l, kt _ _ F H .refl o .int h⟩
theorem xe_kget {p : Addr} {tab : List (Str × Int)} (t : KTab X.K X.w p tab) (ha : XE X G a wa) (hb : XE X G b wb) (hs : PlainIx b) : XE X G (.Subscript a b pos) (wOp (kgetD p tab) wa wb) :=
  PE.imp (pe_ix ix_kdict ha hb hs) fun σ H Q h => tOp_of (l_kgetD t) h
/-- x in d, x not in d, for keys that are there -/
def kinD (p : Addr) (tab : List (Str × Int)) (neg : Bool) : OD := fun M d e q => e = .obj p ∧ ∃ z i, d = .str z ∧ tab.lookup z = some i ∧ q (.bl (!neg))
def rKin (K : PySem.W.Frag) (w : World) (p : Addr) (neg : Bool) : R2 := fun x y H Q => ∃ z v, x = .str z ∧ y = .ref p ∧ KDct K w p z v ∧ Q (.bl (!neg)) H
theorem op_kin {p : Addr} (low : (p == sysModules) = false) : OpR X (compareOp .In) (rKin X.K X.w p false) := by
  intro pins s σ H x y v u Q I rx ry h
  obtain ⟨z, r, rfl, rfl, ⟨es, n, u0, hl, hk, e, ru⟩, q⟩ := h
  cases ry
  obtain ⟨t, rfl⟩ := rx
  refine wpAny_in_of (strKind_is X.prog X.w z t) low (PySem.W.mapOf_K (prog := X.prog) (w := X.w) I.kIn hl hk) ?_
  rw [PySem.W.find_K hl e]
  exact ⟨.bl true, H, I.tok _, rfl, q⟩
theorem op_knin {p : Addr} (low : (p == sysModules) = false) : OpR X (compareOp .NotIn) (rKin X.K X.w p true) := by
  intro pins s σ H x y v u Q I rx ry h
  obtain ⟨z, r, rfl, rfl, ⟨es, n, u0, hl, hk, e, ru⟩, q⟩ := h
  cases ry
  obtain ⟨t, rfl⟩ := rx
  refine wpAny_notIn_of (strKind_is X.prog X.w z t) low (PySem.W.mapOf_K (prog := X.prog) (w := X.w) I.kIn hl hk) ?_
  rw [PySem.W.find_K hl e]
  exact ⟨.bl false, H, I.tok _, rfl, q⟩
theorem l_kinD {p : Addr} {tab : List (Str × Int)} {neg : Bool} (t : KTab X.K X.w p tab) : Lifts X.K (kinD p tab neg) (rKin X.K X.w p neg) := fun F M H v u d e q Q o i1 i2 ⟨ee, z, i, ed, l, h⟩ kt => by
  subst ed
  subst ee
  cases i2
  exact ⟨z, .int i, isD_str i1, rfl, t.hit z i l, kt _ _ F H .refl o .bl h⟩
theorem xe_kin {p : Addr} {tab : List (Str × Int)} (t : KTab X.K X.w p tab) (ha : XE X G a wa) (hb : XE X G b wb) (hm : behindInMarks .In b = false := by rfl) : XE X G (.Compare a [.In] [b] pos) (wOp (kinD p tab false) wa wb) :=
  xe_cmp (op_kin t.low) (l_kinD t) ha hb hm
theorem xe_kinN {p : Addr} {tab : List (Str × Int)} (t : KTab X.K X.w p tab) (ha : XE X G a wa) (hb : XE X G b wb) (hm : behindInMarks .NotIn b = false := by rfl) : XE X G (.Compare a [.NotIn] [b] pos) (wOp (kinD p tab true) wa wb) :=
  xe_cmp (op_knin t.low) (l_kinD t) ha hb hm
theorem xt_kin {p : Addr} {tab : List (Str × Int)} (t : KTab X.K X.w p tab) (ha : XE X G a wa) (hb : XE X G b wb) (hm : behindInMarks .In b = false := by rfl) : XT X G (.Compare a [.In] [b] pos) (wTest (wOp (kinD p tab false) wa wb)) :=
  xt_cmp (op_kin t.low) (l_kinD t) ha hb hm
theorem xt_kinN {p : Addr} {tab : List (Str × Int)} (t : KTab X.K X.w p tab) (ha : XE X G a wa) (hb : XE X G b wb) (hm : behindInMarks .NotIn b = false := by rfl) : XT X G (.Compare a [.NotIn] [b] pos) (wTest (wOp (kinD p tab true) wa wb)) :=
  xt_cmp (op_knin t.low) (l_kinD t) ha hb hm
end

/-! ### sum of lists -/
def catF (its : Nat → Array Value) : Nat → Nat → Array Value
  | _, 0 => #[]
  | i, k + 1 => its i ++ catF its (i + 1) k
def lstObj (xs : Array Value) (n : Nat) : Obj := { cls := .type "list", dict := none, data := .seq xs n, slots := #[] }
theorem upd_set {h : Heap} {S : Addr} {xs ys : Array Value} {c : Nat} (hS : h.get? S = some (lstObj xs c)) : ∃ c', (h.update S (Obj.mapSeq fun _ => ys)).get? S = some (lstObj ys c') := ⟨_, Heap.get?_update_self (Obj.mapSeq fun _ => ys) hS rfl⟩
section
variable {prog : Program} {w : World} {A : Around} {R : Result → Shared → Prop}
/-- from turn i on, k turns left: the total stands at T -/
theorem sum_goes (hh : A.handled = none) {I ax S : Addr} {items : Array Value} (hI : ax ≠ I) (SI : S ≠ I) (Sx : S ≠ ax) (at_ : Nat → Addr) (its : Nat → Array Value) (hval : ∀ (i : Nat) v, items[i]? = some v → v = .ref (at_ i)) :
    ∀ (k i : Nat) (s : Shared) (T : Addr) (acc : Array Value) (c cT : Nat), items.size - i = k → i ≤ items.size → s.heap.IsListIter I ax i → s.heap.IsList ax items → s.heap.get? S = some (lstObj #[.ref T] c) → s.heap.get? T = some (lstObj acc cT) → T ≠ I → T ≠ S →
    (∀ j, i ≤ j → j < items.size → at_ j ≠ I ∧ at_ j ≠ S ∧ ∃ m, s.heap.get? (at_ j) = some (lstObj (its j) m)) → acc.size + (catF its i k).size ≤ sizeLine →
    (∀ h' tk T' m, (∀ b o, b ≠ I → b ≠ S → s.heap.get? b = some o → h'.get? b = some o) → h'.get? T' = some (lstObj (acc ++ catF its i k) m) → (k = 0 → T' = T) → (0 < k → s.heap.get? T' = none) → R (.ok (.ret (.ref T'))) { s with heap := h', toks := tk }) →
    codeAny (model prog w) A (.builtin "sum.loop" ⟨[.ref I, .ref S, rawInt 2, rawInt 0], []⟩) R s := by
  have W := Walks.list (prog := prog) (w := w) (A := A.in1) hh I ax hI items
  intro k
  induction k with
  | zero =>
    intro i s T acc c cT hk hi it li hS hT hTI hTS hb hz hR
    have last : i = items.size := by omega
    subst last
    refine codeAny_builtin PySem.F.entry_sum_loop ?_
    rw [Around.under_plainId PySem.F.plain_sum_loop _]
    show wpAny _ A.in1 (seqItems? (.ref S) >>= _) _ _ s
    refine wpAny_bind (wpAny_seqItems hS rfl ?_)
    show wpAny _ A.in1 (tryCatch (pyNext (.ref I)) _ >>= _) _ _ s
    refine wpAny_bind (wpAny_tryCatch (W.done s _ _ ⟨it, li⟩ fun h' tk kept => ?_))
    refine wpAny_pure (hR h' tk T cT (fun b o hbI _ e => kept b o (by simpa using hbI) e) ?_ (fun _ => rfl) (fun z => absurd z (Nat.lt_irrefl 0)))
    rw [catF, Array.append_empty]
    exact kept T _ (by simpa using hTI) hT
  | succ k ih =>
    intro i s T acc c cT hk hi it li hS hT hTI hTS hb hz hR
    have hlt : i < items.size := by omega
    refine codeAny_builtin PySem.F.entry_sum_loop ?_
    rw [Around.under_plainId PySem.F.plain_sum_loop _]
    show wpAny _ A.in1 (seqItems? (.ref S) >>= _) _ _ s
    refine wpAny_bind (wpAny_seqItems hS rfl ?_)
    show wpAny _ A.in1 (tryCatch (pyNext (.ref I)) _ >>= _) _ _ s
    refine wpAny_bind (wpAny_tryCatch (W.item i s _ _ hlt ⟨it, li⟩ fun v h1 tk hP hst1 kept1 => ?_))
    have ev := hval i v hP
    subst ev
    obtain ⟨hbI, hbS, m, hbi⟩ := hb i (Nat.le_refl i) hlt
    have k1 : ∀ b o, b ≠ I → s.heap.get? b = some o → h1.get? b = some o := fun b o n e => kept1 b o (by simpa using n) e
    have hS1 := k1 S _ SI hS
    have hT1 := k1 T _ hTI hT
    have hb1 := k1 _ _ hbI hbi
    have hz2 : acc.size + (its i).size + (catF its (i + 1) k).size ≤ sizeLine := by
      rw [catF, Array.size_append] at hz
      omega
    obtain ⟨oI, eI, _⟩ := hst1.1
    have ltI : I < h1.objs.size := Heap.lt_size eI
    have ltS : S < h1.objs.size := Heap.lt_size hS1
    show wpAny _ A.in1 ((holding [Value.ref (at_ i)] (binaryOp .Add (.ref T) (.ref (at_ i)))).attempt >>= _) _ _ _
    refine wpAny_bind (wpAny_attempt (wpAny_holding (PySem.P.add_list (n := cT) (n2 := m) hT1 hb1 ?_ (by omega))))
    have hS2 : (h1.push (lstObj (acc ++ its i) 0)).get? S = some (lstObj #[.ref T] c) := Heap.get?_push_of_some _ hS1
    show wpAny _ A.in1 (updateSeq S (fun _ => #[.ref h1.objs.size]) >>= _) _ _ _
    refine wpAny_bind ?_
    refine wpAny_updateSeq hS2 rfl ?_
    refine wpAny_bind (wpAny_letGo ?_)
    obtain ⟨c3, hS3⟩ := upd_set (ys := #[.ref h1.objs.size]) hS2
    refine wpAny_bind ?_
    refine wpAny_updateSeq hS3 rfl (wpAny_pure ⟨plainId_quiet PySem.F.plain_sum_loop _, ?_⟩)
    obtain ⟨c4, hS4⟩ := upd_set (ys := #[.ref h1.objs.size]) hS3
    have keep2 : ∀ b o, b ≠ S → h1.get? b = some o → (((h1.push (lstObj (acc ++ its i) 0)).update S (Obj.mapSeq fun _ => #[.ref h1.objs.size])).update S (Obj.mapSeq fun _ => #[.ref h1.objs.size])).get? b = some o := fun b o hb e =>
      (Heap.get?_update_other _ _ (Ne.symm hb)).trans ((Heap.get?_update_other _ _ (Ne.symm hb)).trans (Heap.get?_push_of_some _ e))
    have hN : (((h1.push (lstObj (acc ++ its i) 0)).update S (Obj.mapSeq fun _ => #[.ref h1.objs.size])).update S (Obj.mapSeq fun _ => #[.ref h1.objs.size])).get? h1.objs.size = some (lstObj (acc ++ its i) 0) :=
      (Heap.get?_update_other _ _ (Nat.ne_of_lt ltS)).trans ((Heap.get?_update_other _ _ (Nat.ne_of_lt ltS)).trans (Heap.get?_push_size _ rfl))
    have it2 := hst1.1.at (h' := ((h1.push (lstObj (acc ++ its i) 0)).update S (Obj.mapSeq fun _ => #[.ref h1.objs.size])).update S (Obj.mapSeq fun _ => #[.ref h1.objs.size])) fun o e => keep2 I o (Ne.symm SI) e
    have li2 := hst1.2.at (h' := ((h1.push (lstObj (acc ++ its i) 0)).update S (Obj.mapSeq fun _ => #[.ref h1.objs.size])).update S (Obj.mapSeq fun _ => #[.ref h1.objs.size])) fun o e => keep2 ax o (Ne.symm Sx) e
    refine ih (i + 1) _ h1.objs.size (acc ++ its i) c4 0 (by omega) hlt it2 li2 hS4 hN (Nat.ne_of_gt ltI) (Nat.ne_of_gt ltS) (fun j hj hjn => ?_) ?_ ?_
    · obtain ⟨jI, jS, m', hj'⟩ := hb j (by omega) hjn
      exact ⟨jI, jS, m', keep2 _ _ jS (k1 _ _ jI hj')⟩
    · rw [Array.size_append]
      exact hz2
    · intro h' tk' T' m' kept3 hT' z0 z1
      refine hR h' tk' T' m' (fun b o hbI hbS e => kept3 b o hbI hbS (keep2 b o hbS (k1 b o hbI e))) ?_ (fun z => absurd z (Nat.succ_ne_zero k)) (fun _ => ?_)
      · rw [catF, ← Array.append_assoc]
        exact hT'
      · cases e : s.heap.get? T' with
        | none => rfl
        | some o =>
          exfalso
          have notI : T' ≠ I := fun z => by
            subst z
            rcases Nat.eq_zero_or_pos k with q | q
            · rw [z0 q] at ltI
              exact Nat.lt_irrefl _ ltI
            · obtain ⟨o2, e2, _⟩ := it2
              cases (z1 q).symm.trans e2
          by_cases notS : T' = S
          · subst notS
            rcases Nat.eq_zero_or_pos k with q | q
            · rw [z0 q] at ltS
              exact Nat.lt_irrefl _ ltS
            · cases (z1 q).symm.trans hS4
          · have e1 := k1 T' o notI e
            rcases Nat.eq_zero_or_pos k with q | q
            · rw [z0 q] at e1
              exact Nat.lt_irrefl _ (Heap.lt_size e1)
            · have e2 := keep2 T' o notS e1
              cases (z1 q).symm.trans e2
end
theorem sub_lst_str : isSubtype (.type "list") (.type "str") = pure false := by rw [isSubtype_type]; kernel_rfl
theorem sub_lst_bytes : isSubtype (.type "list") (.type "bytes") = pure false := by rw [isSubtype_type]; kernel_rfl
theorem sub_lst_bytearray : isSubtype (.type "list") (.type "bytearray") = pure false := by rw [isSubtype_type]; kernel_rfl
theorem sum_args2 (x y : Value) : argsOk "sum" ⟨[x, y], []⟩ := by unfold argsOk; kernel_rfl
section
variable {prog : Program} {w : World} {A : Around} {E : Value → Shared → Prop} {s : Shared}
/-- sum(xs, ys) of a list of lists and a list -/
theorem sum_lists {ax l0 : Addr} {items acc : Array Value} {n0 : Nat} {Q : Value → Shared → Prop} (hh : A.handled = none) (at_ : Nat → Addr) (its : Nat → Array Value) (hl : s.heap.IsList ax items) (h0 : s.heap.get? l0 = some (lstObj acc n0))
    (hval : ∀ (i : Nat) v, items[i]? = some v → v = .ref (at_ i)) (hb : ∀ j, j < items.size → ∃ m, s.heap.get? (at_ j) = some (lstObj (its j) m)) (hz : acc.size + (catF its 0 items.size).size ≤ sizeLine)
    (hQ : ∀ h' tk T' m, (∀ b o, s.heap.get? b = some o → h'.get? b = some o) → h'.get? T' = some (lstObj (acc ++ catF its 0 items.size) m) → (items.size = 0 → T' = l0) → (0 < items.size → s.heap.get? T' = none) → Q (.ref T') { s with heap := h', toks := tk }) :
    wpAny (model prog w) A (call (.builtin "sum") [.ref ax, .ref l0]) Q E s := by
  refine call_function_tree PySem.F.kind_sum PySem.F.plain_sum PySem.F.entry_sum (sum_args2 _ _) ?_
  unfold Builtin.«sum»
  simp only [List.length_cons, List.length_nil]
  rw [if_neg (by decide)]
  refine wpAny_bind (wpAny_of_eq (show Builtin.Builtins.bindParams "sum" ["start"] 0 ⟨[.ref l0], []⟩ = pure [some (.ref l0)] from rfl) ?_)
  refine wpAny_bind (wpAny_pyIter_list hl ?_)
  have old : ∀ b o, s.heap.get? b = some o → (s.heap.push { cls := .type "list_iterator", data := .fields #[.ref ax, .int 0 0] }).get? b = some o := fun b o e => Heap.get?_push_of_some _ e
  have hT : Shared.TypeIs { s with heap := s.heap.push { cls := .type "list_iterator", data := .fields #[.ref ax, .int 0 0] } } (.ref l0) "list" := ⟨_, old _ _ h0, rfl⟩
  refine wpAny_bind (wpAny_pure ?_)
  simp only [List.forIn_cons, List.forIn_nil]
  refine wpAny_bind (wpAny_bind (wpAny_bind (wpAny_isInstance (T := "list") (b := false) hT sub_lst_str ?_)))
  simp only [Bool.false_eq_true, if_false]
  refine wpAny_pure (wpAny_bind (wpAny_bind (wpAny_isInstance (T := "list") (b := false) hT sub_lst_bytes ?_)))
  simp only [Bool.false_eq_true, if_false]
  refine wpAny_pure (wpAny_bind (wpAny_bind (wpAny_isInstance (T := "list") (b := false) hT sub_lst_bytearray ?_)))
  simp only [Bool.false_eq_true, if_false]
  refine wpAny_pure (wpAny_pure ?_)
  refine wpAny_bind (wpAny_newObj_type ?_)
  refine wpAny_pure ⟨plainId_quiet PySem.F.plain_sum_loop _, ?_⟩
  have ltx : ax < s.heap.objs.size := by
    obtain ⟨o, e, _⟩ := hl
    exact Heap.lt_size e
  have szI : (s.heap.push { cls := .type "list_iterator", data := .fields #[.ref ax, .int 0 0] }).objs.size = s.heap.objs.size + 1 := Heap.size_push ..
  have keep : ∀ b o, s.heap.get? b = some o → ((s.heap.push { cls := .type "list_iterator", data := .fields #[.ref ax, .int 0 0] }).push (lstObj #[.ref l0] 0)).get? b = some o := fun b o e => Heap.get?_push_of_some _ (old b o e)
  have lt0 : l0 < s.heap.objs.size := Heap.lt_size h0
  refine sum_goes (I := s.heap.objs.size) (ax := ax) (S := (s.heap.push { cls := .type "list_iterator", data := .fields #[.ref ax, .int 0 0] }).objs.size) (items := items) hh (Nat.ne_of_lt ltx) (by rw [szI]; exact Nat.succ_ne_self _) (by rw [szI]; exact Nat.ne_of_gt (Nat.lt_succ_of_lt ltx)) at_ its hval (items.size - 0) 0 _ l0 acc 0 n0 rfl (Nat.zero_le _) ?_ ?_ ?_ (keep _ _ h0) (Nat.ne_of_lt lt0) (by rw [szI]; exact Nat.ne_of_lt (Nat.lt_succ_of_lt lt0)) (fun j _ hj => ?_) hz ?_
  · exact ⟨_, Heap.get?_push_of_some _ (Heap.get?_push_size _ rfl), rfl, rfl⟩
  · exact hl.at fun o e => keep ax o e
  · exact Heap.get?_push_size _ rfl
  · obtain ⟨m, e⟩ := hb j hj
    have ltj := Heap.lt_size e
    exact ⟨Nat.ne_of_lt ltj, by rw [szI]; exact Nat.ne_of_lt (Nat.lt_succ_of_lt ltj), m, keep _ _ e⟩
  · intro h' tk T' m kept hT' z0 z1
    refine hQ h' tk T' m (fun b o e => kept b o (Nat.ne_of_lt (Heap.lt_size e)) (by rw [szI]; exact Nat.ne_of_lt (Nat.lt_succ_of_lt (Heap.lt_size e))) (keep b o e)) hT' z0 fun q => ?_
    cases e : s.heap.get? T' with
    | none => rfl
    | some o => cases (z1 q).symm.trans (keep _ _ e)
end
/-! ### at the layer -/
theorem thing_at {P : Program} {w : World} {H : Hp} {h : Heap} {a : Addr} {o : HO} (x : ObjOk P w H h a o) : ∃ ob, h.get? a = some ob := by
  cases o with
  | lst xs => obtain ⟨_, _, _, _, e⟩ := x; exact ⟨_, e⟩
  | tup xs => obtain ⟨_, _, _, ob, e, _⟩ := x; exact ⟨ob, e⟩
  | dK kvs => obtain ⟨_, _, _, _, o, _, _, e, _⟩ := x; exact ⟨_, e⟩
  | dT kvs => obtain ⟨_, _, _, _, o, _, _, e, _⟩ := x; exact ⟨_, e⟩
  | set S n => obtain ⟨o, _, _, _, e, _⟩ := x; exact ⟨_, e⟩
  | ins C dx fs => obtain ⟨_, _, _, e, _⟩ := x; exact ⟨_, e⟩
  | own y => obtain ⟨_, e⟩ := x; exact ⟨_, e⟩
  | xd fs => obtain ⟨_, ⟨_, _, _, e, _⟩, _⟩ := x; exact ⟨_, e⟩
  | rng lo hi => obtain ⟨_, _, _, e⟩ := x; exact ⟨_, e⟩
  | frz ob u => obtain ⟨e, _⟩ := x; exact ⟨_, e⟩
  | tbl ps => exact ⟨_, show h.get? a = some _ from x⟩
  | met f y => exact ⟨_, show h.get? a = some _ from x⟩
  | ext φ => obtain ⟨_, ⟨_, e⟩, _⟩ := x; exact ⟨_, e⟩
section
variable {X : Cx} {G : XK}
/-- items of a list of lists: where each stands, what it holds -/
def rSumL (K : PySem.W.Frag) : List V → Hp → VK → Prop := fun vs H Q => ∃ (a b : Addr) (xs zs : List V) (ps : List (Addr × List V)), vs = [.ref a, .ref b] ∧ SqL K H a xs ∧ H b = some (.lst zs) ∧ xs = ps.map (fun p => V.ref p.1) ∧ (∀ p ∈ ps, H p.1 = some (.lst p.2)) ∧
  zs.length + (ps.map Prod.snd).flatten.length ≤ sizeLine ∧ (ps = [] → Q (.ref b) H) ∧ (ps ≠ [] → ∀ p, H p = none → Q (.ref p) (upd H p (.lst (zs ++ (ps.map Prod.snd).flatten))))
theorem catF_flat (its : Nat → Array Value) : ∀ (ls : List (List Value)) (i : Nat), (∀ (j : Nat) l, ls[j]? = some l → its (i + j) = l.toArray) → catF its i ls.length = ls.flatten.toArray
  | [], i, _ => rfl
  | l :: r, i, h => by
    rw [List.length_cons, catF, List.flatten_cons, catF_flat its r (i + 1) (fun j m e => by
      have := h (j + 1) m (by simpa using e)
      rwa [show i + (j + 1) = i + 1 + j by omega] at this), show its i = l.toArray from h 0 l (by simp)]
    simp
theorem vals_flat : ∀ {ps : List (Addr × List V)} {ls : List (List Value)}, ps.length = ls.length → (∀ (j : Nat) p l, ps[j]? = some p → ls[j]? = some l → Vals p.2 l) → Vals (ps.map Prod.snd).flatten ls.flatten
  | [], [], _, _ => .nil
  | p :: ps, l :: ls, h, r => by
    rw [List.map_cons, List.flatten_cons, List.flatten_cons]
    exact (r 0 p l (by simp) (by simp)).append (vals_flat (by simpa using h) fun j q m e1 e2 => r (j + 1) q m (by simpa using e1) (by simpa using e2))
theorem call_sumL (hc : X.calm = true) : CallR X (.builtin "sum") (rSumL X.K) := by
  intro pins s σ H vs us Q I r h
  obtain ⟨a, b, xs, zs, ps, rfl, hx, hB, ex, hp, hz, q0, q1⟩ := h
  obtain ⟨u, v, rfl, ru, rv⟩ : ∃ u v, us = [u, v] ∧ RelV (.ref a) u ∧ RelV (.ref b) v := by
    cases r with
    | cons r1 r2 =>
      cases r2 with
      | cons r2 r3 =>
        cases r3
        exact ⟨_, _, rfl, r1, r2⟩
  cases ru
  cases rv
  obtain ⟨itx, rx, pl, _⟩ := I.list hx
  obtain ⟨z, itb, nb, rb, hlb, eb⟩ := I.lstM hB
  have parts : ∀ p ∈ ps, ∃ l : List Value, Vals p.2 l ∧ ∃ m, s.heap.get? p.1 = some (lstObj l.toArray m) := fun p mem => by
    obtain ⟨_, l, m, rl, _, e⟩ := I.lstM (hp p mem)
    exact ⟨l, rl, m, e⟩
  have lsx : ∃ ls : List (List Value), ps.length = ls.length ∧ ∀ (j : Nat) p l, ps[j]? = some p → ls[j]? = some l → Vals p.2 l ∧ ∃ m, s.heap.get? p.1 = some (lstObj l.toArray m) := by
    clear hx hz q0 q1 ex hp
    induction ps with
    | nil => exact ⟨[], rfl, fun j p l e => by simp at e⟩
    | cons p ps ih =>
      obtain ⟨l, hl⟩ := parts p (List.mem_cons_self ..)
      obtain ⟨ls, e, h⟩ := ih fun p mem => parts p (List.mem_cons_of_mem _ mem)
      refine ⟨l :: ls, by simp [e], fun j q m e1 e2 => ?_⟩
      cases j with
      | zero =>
        simp at e1 e2
        subst e1
        subst e2
        exact hl
      | succ j => exact h j q m (by simpa using e1) (by simpa using e2)
  obtain ⟨ls, len, rel⟩ := lsx
  have szx : itx.toArray.size = ps.length := by rw [List.size_toArray, ← rx.length, ex, List.length_map]
  have vf := vals_flat len fun j p l e1 e2 => (rel j p l e1 e2).1
  have cat : catF (fun j => (ls.getD j []).toArray) 0 itx.toArray.size = ls.flatten.toArray := by
    rw [szx, len]
    exact catF_flat _ ls 0 fun j l e => by rw [Nat.zero_add, List.getD_eq_getElem?_getD, e]; rfl
  have room : itb.toArray.size + (catF (fun j => (ls.getD j []).toArray) 0 itx.toArray.size).size ≤ sizeLine := by
    rw [cat, List.size_toArray, List.size_toArray, ← vf.length, ← hlb]
    exact hz
  refine sum_lists (I.ok.hd hc) (fun j => (ps.getD j (0, [])).1) (fun j => (ls.getD j []).toArray) pl.isList eb (fun i v hv => ?_) (fun j hj => ?_) room fun h' tk T' m kept hT' z0 z1 => ?_
  · rw [List.getElem?_toArray] at hv
    have lt : i < ps.length := by
      have := (List.getElem?_eq_some_iff.mp hv).1
      rw [← rx.length, ex, List.length_map] at this
      exact this
    have e1 : ps[i]? = some ps[i] := List.getElem?_eq_getElem lt
    obtain ⟨y, hy, ry⟩ := rx.get (i := i) (x := .ref ps[i].1) (by rw [ex, List.getElem?_map, e1]; rfl)
    rw [hv] at hy
    cases hy
    cases ry
    rw [List.getD_eq_getElem?_getD, e1]
    rfl
  · rw [szx] at hj
    have e1 : ps[j]? = some ps[j] := List.getElem?_eq_getElem hj
    have e2 : ls[j]? = some (ls[j]'(by omega)) := List.getElem?_eq_getElem (by omega)
    obtain ⟨m, em⟩ := (rel j _ _ e1 e2).2
    refine ⟨m, ?_⟩
    rw [List.getD_eq_getElem?_getD, List.getD_eq_getElem?_getD, e1, e2]
    exact em
  · have I1 : Inv X pins σ H { s with heap := h', toks := tk } := I.kept kept
    cases hps : ps with
    | nil =>
      rw [z0 (by rw [szx, hps]; rfl)]
      exact ⟨.ref b, H, I1, rfl, q0 hps⟩
    | cons p r =>
      have fresh := z1 (by rw [szx, hps]; exact Nat.succ_pos _)
      have hn : H T' = none := by
        cases e : H T' with
        | none => rfl
        | some o =>
          obtain ⟨ob, eo⟩ := thing_at (I.hok T' o e)
          rw [fresh] at eo
          cases eo
      refine ⟨.ref T', _, L2.Inv.laidN (o := .lst (zs ++ (ps.map Prod.snd).flatten)) I kept fresh hn ⟨by rw [List.length_append]; exact hz, itb ++ ls.flatten, m, rb.append vf, ?_⟩, rfl, q1 (by rw [hps]; simp) T' hn⟩
      rw [hT', cat]
      simp [lstObj]
/-- a list of lists, over trees -/
def sumC : OC := fun M ds q => ∃ (d : D) (cs : List (List D)) (fs : List D), ds = [d, .lst fs] ∧ view M d = .lst (cs.map D.lst) ∧ fs.length + cs.flatten.length ≤ 100000 ∧ q (.lst (fs ++ cs.flatten))
theorem lists_at {K : PySem.W.Frag} {F : Hp} : ∀ {xs : List V} {cs : List (List D)}, IsDs K F xs (cs.map D.lst) → ∃ ps : List (Addr × List V), xs = ps.map (fun p => V.ref p.1) ∧ (∀ p ∈ ps, F p.1 = some (.lst p.2)) ∧ IsDs K F (ps.map Prod.snd).flatten cs.flatten ∧ ps.length = cs.length
  | [], [], _ => ⟨[], rfl, fun p z => (by cases z), .nil, rfl⟩
  | _ :: _, _ :: _, .cons (.lst (a := a) (xs := ys) e i) r => by
    obtain ⟨ps, e1, e2, e3, e4⟩ := lists_at r
    refine ⟨(a, ys) :: ps, by rw [List.map_cons, e1], fun p z => ?_, ?_, by simp [e4]⟩
    · rcases List.mem_cons.mp z with rfl | z
      · exact e
      · exact e2 p z
    · rw [List.map_cons, List.flatten_cons, List.flatten_cons]
      exact i.app e3
theorem l_sumC : LiftsC X.K sumC (rSumL X.K) := fun F M H vs ds q Q o i ⟨d, cs, fs, ed, ev, hz, h⟩ kt => by
  subst ed
  obtain ⟨v, u, rfl, i1, i2⟩ := isDs2 i
  obtain ⟨a, xs, rfl, ha, ix⟩ := asLst o i1 ev
  cases i2 with
  | lst eb ib =>
    obtain ⟨ps, ex, hp, ip, lp⟩ := lists_at ix
    have big : (100000 : Nat) ≤ sizeLine := by decide
    refine ⟨a, _, xs, _, ps, rfl, .of ha, o.sub _ _ eb, ex, fun p z => o.sub _ _ (hp p z), ?_, fun e => ?_, fun _ p hn => ?_⟩
    · rw [ib.len, ip.len]
      omega
    · have ce : cs = [] := by
        subst e
        exact List.eq_nil_of_length_eq_zero lp.symm
      subst ce
      rw [List.flatten_nil, List.append_nil] at h
      exact kt _ _ F H .refl o (.lst eb ib) h
    · have nf := o.noF hn
      exact kt _ _ _ _ (.frz nf hn) (o.frz hn) (.lst upd_same ((ib.app ip).mono (Same.upd nf))) h
theorem xe_sumL {p pos : Pos} {e : Expr} {es : List Expr} {w : DA} (hg : Gl X "sum") (hm : X.mg "sum" = none) (ha : XA X G (e :: es) w) (hc : X.calm = true := by rfl) (he : starEach (e :: es) X.env = (false, eval e X.env) :: starEach es X.env := by rfl) (hpl : (backTo pos (starEach es X.env)).any (·.1) = false := by rfl) :
    XE X G (.Call (.Name "sum" p) (e :: es) [] pos) (wCB sumC w) := xe_callB (call_sumL hc) l_sumC hg hm (by decide +kernel) ha (he := he) (hpl := hpl)
/-- lcm(a, b), lcm a name of math's -/
theorem xe_lcm {p pos : Pos} {x : Str} {e : Expr} {es : List Expr} {w : DA} (hg : Gl X x) (hm : X.mg x = some (.builtin "math.lcm")) (ha : XA X G (e :: es) w) (hdb : (x == ("__debug__" : Str)) = false := by decide)
    (he : starEach (e :: es) X.env = (false, eval e X.env) :: starEach es X.env := by rfl) (hpl : (backTo pos (starEach es X.env)).any (·.1) = false := by rfl) :
    XE X G (.Call (.Name x p) (e :: es) [] pos) (wCB lcmC w) :=
  PE.imp (pe_callBfun cr_lcm hg hm ha hdb he hpl) fun σ H Q ⟨ρ, F, M, xx, k, a, q, kt⟩ => ⟨ρ, F, M, xx, _, a, q, fun vs ds F1 M1 H1 g1 o1 i1 q1 => l_lcmC F1 M1 H1 vs ds _ Q o1 i1 q1 fun v d F2 H2 g2 o2 i2 q2 => kt v d F2 M1 H2 (g1.trans g2) o2 i2 q2⟩
end
end TV

set_option Elab.async false
set_option linter.all false
set_option maxRecDepth 100000
set_option maxHeartbeats 3200000
/-! len(set(t)), t a tuple of unlike texts. -/
namespace TV
open PySem PySem.Spec PyProof.Rows L2
section
variable {prog : Program} {w : World} {A : Around} {R : Result → Shared → Prop} {I : Addr} {fp wr : List Addr} {G : Array GenState → Array GenState → Prop} {n : Nat} {Pv : Nat → Value → Prop} {St : Nat → Shared → Prop}
/-- unlike texts go into a set, one by one -/
theorem txt_loop (W : WalksS prog w A.in1 I fp wr G n Pv St) {S : Addr} (out : S ∉ fp) (xs : List Str) (count : n = xs.length) (few : n + 1 < scanBound) (unlike : xs.Nodup) (told : ∀ (i : Nat) v, Pv i v → ∃ z t, xs[i]? = some z ∧ v = .str z t) :
    ∀ (k i : Nat) (s : Shared), n - i = k → i ≤ n → St i s → s.heap.SetOf (PySem.strKind prog w) S (fun z => decide (z ∈ xs.take i)) i →
      (∀ s', Moved (S :: wr) G s s' → s'.heap.SetOf (PySem.strKind prog w) S (fun z => decide (z ∈ xs)) n → R (.ok (.ret .none)) s') →
      codeAny (model prog w) A (.builtin "set.update.loop" ⟨[.ref S, .ref I], []⟩) R s := by
  have outW : S ∉ wr := fun z => out (W.sub _ z)
  have more : ∀ b ∈ wr, b ∈ S :: wr := fun b z => List.mem_cons_of_mem _ z
  have moved : ∀ {s s' : Shared} {f : Str → Bool} {m : Nat}, Moved wr G s s' → s.heap.SetOf (PySem.strKind prog w) S f m → s'.heap.SetOf (PySem.strKind prog w) S f m := fun {s s' f m} mv ⟨o, es, ep, t, ho, rest⟩ => ⟨o, es, ep, t, mv.heap S _ outW ho, rest⟩
  intro k
  induction k with
  | zero =>
    intro i s left le st set done
    obtain rfl : i = n := by omega
    refine codeAny_builtin PyProof.Rows.F.entry_set_update_loop ?_
    rw [Around.under_plainId PyProof.Rows.F.plain_set_update_loop]
    show wpAny _ _ (pyNext (.ref I) >>= _) _ _ _
    refine wpAny_bind (W.done s _ _ st fun s' mv => ?_)
    show wpAny _ _ (ret Value.none) _ _ _
    rw [List.take_of_length_le (by omega)] at set
    exact wpAny_pure (done s' (mv.mono more) (moved mv set))
  | succ k ih =>
    intro i s left le st set done
    have lt : i < n := by omega
    refine codeAny_builtin PyProof.Rows.F.entry_set_update_loop ?_
    rw [Around.under_plainId PyProof.Rows.F.plain_set_update_loop]
    show wpAny _ _ (pyNext (.ref I) >>= _) _ _ _
    refine wpAny_bind (W.item i s _ _ lt st fun v s' pv st' mv => ?_)
    obtain ⟨z, t, ez, rfl⟩ := told i v pv
    have set' := moved mv set
    show wpAny _ _ (holding [Value.str z t] (setAdd S (.str z t)) >>= _) _ _ _
    refine wpAny_bind (wpAny_holding ?_)
    unfold setAdd
    refine wpAny_holding (wpAny_bind ((PySem.strKind prog w).pyHash (k := z) (strKind_is _ _ _ _) ?_))
    refine wpAny_setAddHashed_of (knd := PySem.strKind prog w) (s := { s' with toks := s'.toks + 1 }) (strKind_is _ _ _ _) rfl set' (by omega) fun h' same set2 => ?_
    have new : z ∉ xs.take i := fun mem => by
      obtain ⟨j, hj⟩ := List.mem_iff_getElem?.mp mem
      rw [List.getElem?_take] at hj
      split at hj
      · rename_i lt2
        have := (List.getElem?_inj (by omega) unlike).mp (hj.trans ez.symm)
        omega
      · cases hj
    have set3 : h'.SetOf (PySem.strKind prog w) S (fun y => decide (y ∈ xs.take (i + 1))) (i + 1) := SetOf_congr set2 (fun y => by
      rw [List.take_add_one, ez]
      simp [List.mem_append]) (by rw [decide_eq_false new]; rfl)
    refine wpAny_pure ⟨plainId_quiet PyProof.Rows.F.plain_set_update_loop _, ih (i + 1) _ (by omega) lt (W.frame _ s' _ _ st' (Nat.le_succ _) fun b mem o e => ?_) set3 fun s'' mv2 set4 => ?_⟩
    · rw [same.2 b fun q : b = S => out (by rw [← q]; exact mem)]
      exact e
    · refine done s'' (Moved.trans W.gtrans ((mv.mono more).then_heap (Nat.le_succ _) fun b o nb e => ?_) mv2) set4
      rw [same.2 b fun q : b = S => nb (by rw [q]; exact List.mem_cons_self)]
      exact e
end
section
variable {prog : Program} {w : World} {A : Around} {E : Value → Shared → Prop} {s : Shared}
theorem strs_get : ∀ {vs : List Value} {xs : List Str}, StrsAre vs xs → ∀ (i : Nat) (v : Value), vs[i]? = some v → ∃ z t, xs[i]? = some z ∧ v = .str z t
  | _, _, .nil, i, v, h => by simp at h
  | _, _, .cons z t r, 0, v, h => by
    simp at h
    exact ⟨z, t, by simp, h.symm⟩
  | _, _, .cons z t r, i + 1, v, h => by
    rw [List.getElem?_cons_succ] at h ⊢
    exact strs_get r i v h
def setObj (led : Bool) : Obj := { cls := .type "set", dict := none, data := .set #[] 0 (.fresh 0 0 led) }
/-- what set.__init__ does with a tuple of unlike texts -/
theorem set_init {l S : Addr} {items : Array Value} {xs : List Str} {led : Bool} {Q : Fin → Shared → Prop} (hh : A.handled = none) (hS : s.heap.get? S = some (setObj led)) (hl : s.heap.IsTuple l items) (hi : StrsAre items.toList xs) (few : xs.length + 1 < scanBound) (unlike : xs.Nodup)
    (hQ : ∀ h' tk, h'.SetOf (PySem.strKind prog w) S (fun z => decide (z ∈ xs)) xs.length → (∀ b o, b ≠ S → s.heap.get? b = some o → h'.get? b = some o) → Q (.done (.ret .none)) { s with heap := h', toks := tk }) :
    wpAny (model prog w) A (Builtin.«set.__init__» ⟨[.ref S, .ref l], []⟩) Q E s := by
  have sz : items.size = xs.length := by rw [← StrsAre.len_eq hi, Array.length_toList]
  obtain ⟨ol, hol, hcl, nl, hdl⟩ := id hl
  obtain ⟨ocls, odict, odata, oslots⟩ := ol
  simp only at hcl hdl
  subst hcl
  subst hdl
  have hsls := PySem.F.sub_tuple_set
  have hslf := PySem.F.sub_tuple_frozenset
  have hne : (Value.type "tuple" == Value.type "dict") = false := by decide
  unfold Builtin.«set.__init__» noKeywords Builtin.Frozenset.updateFrom
  generalize hPI : pyIter = PI
  wp_walk
  subst hPI
  have ltS : S < s.heap.objs.size := Heap.lt_size hS
  have ltl : l < s.heap.objs.size := Heap.lt_size hol
  have Sl : S ≠ l := fun e => by
    subst e
    rw [hol] at hS
    simp [setObj] at hS
  have old : ∀ b o, s.heap.get? b = some o → (s.heap.push { cls := .type "tuple_iterator", data := .fields #[.ref l, .int 0 0] }).get? b = some o := fun b o e => Heap.get?_push_of_some _ e
  refine wpAny_pyIter_tuple hl ?_
  refine wpAny_bind (wpAny_runValue ?_)
  refine txt_loop ((Walks.tuple (by simp [hh]) s.heap.objs.size l (Nat.ne_of_lt ltl) items).toS) (S := S) (by simp only [List.mem_cons, List.not_mem_nil, or_false, not_or]; exact ⟨Nat.ne_of_lt ltS, Sl⟩) xs sz (by rw [sz]; exact few) unlike (fun i v hv => strs_get hi i v (by rw [Array.getElem?_toList]; exact hv))
    (items.size - 0) 0 _ rfl (Nat.zero_le _) ⟨⟨_, Heap.get?_push_size _ rfl, rfl, rfl⟩, hl.push _⟩ ?start ?done
  case start =>
    exact SetOf_congr ((PyProof.Rows.setObjOf_fresh (knd := PySem.strKind prog w) led).setOf (old _ _ hS) (by unfold scanBound; omega)) (fun z => by simp) rfl
  case done =>
    intro s' mv set
    obtain ⟨h', g', d', tk', os'⟩ := s'
    have eg : g' = s.gens := mv.gens
    have ed : d' = s.drawn := mv.drawn
    have eo : os' = s.os := mv.os
    subst eg
    subst ed
    subst eo
    rw [sz] at set
    refine wpAny_pure (wpAny_pure (hQ h' tk' set fun b o nb e => mv.heap b o ?_ (old b o e)))
    simp only [List.mem_cons, List.not_mem_nil, or_false, not_or]
    exact ⟨nb, Nat.ne_of_lt (Heap.lt_size e)⟩
/-- set(t) -/
theorem call_setT {l : Addr} {items : Array Value} {xs : List Str} {Q : Value → Shared → Prop} (hh : A.handled = none) (hl : s.heap.IsTuple l items) (hi : StrsAre items.toList xs) (few : xs.length + 1 < scanBound) (unlike : xs.Nodup)
    (hQ : ∀ h' tk, h'.SetOf (PySem.strKind prog w) s.heap.objs.size (fun z => decide (z ∈ xs)) xs.length → (∀ b o, s.heap.get? b = some o → h'.get? b = some o) → Q (.ref s.heap.objs.size) { s with heap := h', toks := tk }) :
    wpAny (model prog w) A (call (.type "set") [.ref l]) Q E s := by
  obtain ⟨c, tl, hmro⟩ := PySem.F.called_set.mro
  have m1 := PySem.F.called_set.made
  have m2 := PySem.F.called_set.sub
  have m3 := PySem.F.called_set.notType
  have m4 := PySem.F.called_set.canCreate
  have m5 := PySem.F.typeCall_set_1 (.ref l)
  refine wpAny_call (codeAny_of_tree ?_)
  show wpAny (model prog w) _ (callAny (.type "set") ⟨[.ref l], []⟩) _ _ _
  refine wpAny_pure ⟨Code.quiet_builtin _ (by decide +kernel), codeAny_builtin PySem.F.entry_type_call ?_⟩
  rw [Around.under_plain (weight_type_call_type "set" [.ref l] []) rfl]
  repeat (any_goals (first | assumption | wp_step))
  refine codeAny_mono (code_set_new_1 (.ref l) (E := E) (Q₁ := fun z s1 => ∃ led : Bool, z = .ref s.heap.objs.size ∧ s1 = { s with heap := s.heap.push (setObj led) }) fun led => ⟨led, rfl, rfl⟩) fun r s1 hr => ?_
  rcases r with e | fl
  · exact hr
  cases fl with
  | ret z =>
    obtain ⟨led, rfl, rfl⟩ := hr
    have hS : (s.heap.push (setObj led)).get? s.heap.objs.size = some (setObj led) := Heap.get?_push_size _ rfl
    have hT : Shared.TypeIs { s with heap := s.heap.push (setObj led) } (.ref s.heap.objs.size) "set" := ⟨_, hS, rfl⟩
    have m6 := PySem.F.called_set.init.lookup
    have m7 := PySem.F.called_set.init.bind (.ref s.heap.objs.size)
    repeat (any_goals (first | assumption | wp_step))
    refine codeAny_mono (codeAny_call_builtin (R := wants (fun r s2 => r = .none ∧ ∃ h' tk, s2 = { s with heap := h', toks := tk } ∧ h'.SetOf (PySem.strKind prog w) s.heap.objs.size (fun z => decide (z ∈ xs)) xs.length ∧ ∀ b o, s.heap.get? b = some o → h'.get? b = some o) E)
      PySem.F.called_set.init.plain PySem.F.entry_set_init (check_set_init_1 hT (set_init (by simp [hh]) hS (hl.push _) hi few unlike fun h' tk set kept => ⟨rfl, h', tk, rfl, set, fun b o e => kept b o (Nat.ne_of_lt (Heap.lt_size e)) (Heap.get?_push_of_some _ e)⟩))) fun r2 s2 hr2 => ?_
    rcases r2 with e | fl2
    · exact hr2
    cases fl2 with
    | ret r =>
      obtain ⟨rfl, h', tk, rfl, set, kept⟩ := hr2
      repeat (any_goals (first | assumption | wp_step))
      exact hQ h' tk set kept
    | next => exact hr2.elim
    | brk => exact hr2.elim
    | cont => exact hr2.elim
  | next => exact hr.elim
  | brk => exact hr.elim
  | cont => exact hr.elim
end
/-! ### at the layer, over trees -/
section
variable {X : Cx} {G : XK} {a : Expr} {ta : TE} {wa : DE} {p p2 q pos : Pos}
def tLenSetN (K : PySem.W.Frag) (ta : TE) : TE := fun σ H Q => ta σ H fun x H1 => ∃ l, ∃ xs : List Str, x = .ref l ∧ SqT K H1 l (xs.map V.str) ∧ xs.Nodup ∧ xs.length ≤ 1000 ∧ Q (.int xs.length) H1
theorem pe_lenSetN (hc : X.calm = true) (hg : Gl X "len") (hm : X.mg "len" = none) (hg2 : Gl X "set") (hm2 : X.mg "set" = none) (ha : PE X a ta)
    (one : starEach [a] X.env = (false, eval a X.env) :: starEach [] X.env := by rfl) : PE X (.Call (.Name "len" p) [.Call (.Name "set" p2) [a] [] q] [] pos) (tLenSetN X.K ta) := by
  refine ⟨fun pins s σ H Q I h => ?_⟩
  refine Call_ (ld_blt I hg hm boot_len ?_)
  refine PyProof.Rows.callWith_builtin1 (PyProof.Rows.args_cons ?_ rfl) rfl rfl
  refine Call_ (ld_blt I hg2 hm2 boot_set ?_)
  refine PyProof.Rows.callWith_type1 (PyProof.Rows.args_cons (thn (ha.run pins s σ H _ I h) fun v s1 ⟨x, H1, I1, r1, q1⟩ => PyProof.Rows.args_nil ?_) one) one rfl
  obtain ⟨l, xs, rfl, hq, unlike, few, q1⟩ := q1
  cases r1
  obtain ⟨its, r, pl, hz⟩ := I1.tuple hq
  refine call_setT (I1.ok.hd hc) pl (by simpa using strsAre_of r) (by unfold scanBound; omega) unlike fun h' tk set kept => ?_
  refine PyProof.Rows.args_nil ?_
  obtain ⟨o, es, ep, t, ho, hex, hd, _, _, _, hf, hn⟩ := set
  have I2 : Inv X pins σ H1 { s1 with heap := h', toks := tk } := I1.kept kept
  exact call_len_set ho hex hd hf (by rw [hn] <;> omega) ⟨.int xs.length, H1, I2.tok _, ⟨_, by rw [hn]⟩, q1⟩
def wLenSet (w : DE) : DE := fun ρ M x k => w ρ M x fun d M1 => ∃ xs : List Str, d = .tup (xs.map D.str) ∧ xs.Nodup ∧ xs.length ≤ 1000 ∧ k (.int xs.length) M1
theorem xe_lenSet (hc : X.calm = true) (hg : Gl X "len") (hm : X.mg "len" = none) (hg2 : Gl X "set") (hm2 : X.mg "set" = none) (ha : XE X G a wa)
    (one : starEach [a] X.env = (false, eval a X.env) :: starEach [] X.env := by rfl) : XE X G (.Call (.Name "len" p) [.Call (.Name "set" p2) [a] [] q] [] pos) (wLenSet wa) :=
  PE.imp (pe_lenSetN hc hg hm hg2 hm2 ha one) fun σ H Q ⟨ρ, F, M, x, k, a, z, kt⟩ => ⟨ρ, F, M, x, _, a, z, fun v d F1 M1 H1 g1 o1 i1 ⟨xs, ed, nd, few, q1⟩ => by
    obtain ⟨l, ys, rfl, hs, iy, _⟩ := asTup o1 (M := M1) i1 (by rw [ed]; rfl)
    obtain rfl := strs_v iy
    exact ⟨l, xs, rfl, hs, nd, few, kt _ _ F1 M1 H1 g1 o1 .int q1⟩⟩
end
end TV

set_option Elab.async false
set_option linter.all false
set_option maxRecDepth 100000
set_option maxHeartbeats 1000000
/-! Comprehensions of two fors. -/
namespace TV
open PySem PySem.Spec PyProof.Rows L2
def wLc2 (wi : DI) (g : DG) (tt : DT) (wi1 : DI) (g1 : DG) (tt1 : DT) (te : DE) (vs vs1 : List Nat) : DA := fun ρ M x k => wi ρ M x fun ds stay M1 => ∃ Pv : Nat → List D → MS → Prop, Pv 0 [] M1 ∧
  (∀ i d acc M', ds[i]? = some d → Pv i acc M' → stay M' ∧ g d (wipe0 ρ vs) M' fun ρ2 M2 => tt ρ2 M2 x fun b M3 => if b = true then
    wi1 ρ2 M3 x fun es stay1 M4 => ∃ Pw : Nat → List D → MS → Prop, Pw 0 acc M4 ∧
      (∀ j e ac M5, es[j]? = some e → Pw j ac M5 → stay1 M5 ∧ g1 e (wipe0 ρ2 vs1) M5 fun ρ3 M6 => tt1 ρ3 M6 x fun b M7 => if b = true then te ρ3 M7 x fun y M8 => ac.length < 100000 ∧ Pw (j + 1) (ac ++ [y]) M8 else Pw (j + 1) ac M7) ∧
      ∀ ac M5, Pw es.length ac M5 → stay1 M5 ∧ Pv (i + 1) ac M5
    else Pv (i + 1) acc M3) ∧
  ∀ acc M', Pv ds.length acc M' → stay M' ∧ k acc M'
section
variable {K : PySem.W.Frag} {G : XK}
/-- what holds between turns -/
def Lc2I (K : PySem.W.Frag) (F1 : Hp) (M1 : MS) (H1 : Hp) (F4 : Hp) (Dd : Addr) (P : List D → MS → Prop) (H' : Hp) : Prop :=
  ∃ F' M' acc accv, Gr F1 M1 H1 F' M' H' ∧ Same F4 F' ∧ HeapOk K F' M' H' ∧ H' Dd = some (.lst accv) ∧ F' Dd = none ∧ M' Dd = none ∧ IsDs K F' accv acc ∧ P acc M'
theorem lc2_of {wi wi1 : DI} {g g1 : TG} {gd gd1 : DG} {tt tt1 : DT} {te : DE} {vs vs1 : List Nat} (tg : TgOk K g gd vs) (tg1 : TgOk K g1 gd1 vs1) {σ : L2.St} {H : Hp} {Q : VK} (h : rL K G (wLc2 wi gd tt wi1 gd1 tt1 te vs vs1) σ H Q) :
    tLc2 (rI K G wi) g (rT K G tt) (rI K G wi1) g1 (rT K G tt1) (rE K G te) vs vs1 σ H Q := by
  obtain ⟨ρ, F, M, x, k, a, q, kt⟩ := h
  refine ⟨ρ, F, M, x, _, a, q, fun J ds stay F1 M1 H1 ga o1 wk ⟨Pv, p0, step, fin⟩ Dd hD => ?_⟩
  refine ⟨fun i m H' => m = ds.length - i ∧ i ≤ ds.length ∧ Lc2I K F1 M1 H1 F1 Dd (Pv i) H', ⟨_, rfl, Nat.zero_le _, F1, M1, [], [], Gr.newU hD, fun _ _ z => z, o1.newU hD, upd_same, o1.noF hD, o1.noM hD, .nil, p0⟩, ?_⟩
  rintro i m H' ⟨rfl, hi, F', M', acc, accv, gb, _, o', eD, fD, mD, ia, pv⟩
  by_cases hlt : i < ds.length
  · have sm := (step i ds[i] acc M' (by simp [hlt]) pv).1
    refine .inr ⟨wk.go i F' M' H' gb.ex o' sm hlt, Lc2I K F1 M1 H1 F1 Dd (Pv (i + 1)), fun H2 z => ⟨ds.length - (i + 1), by omega, rfl, hlt, z⟩, fun v H2 y => ?_⟩
    obtain ⟨F2, d, gc, o2, iv, ed⟩ := wk.yld i F' M' H' v H2 gb.ex o' sm hlt y
    have st := (step i d acc M' ed pv).2
    have eg := ((a.env.mono ga.ex).mono gb.ex).mono gc.ex
    have xo2 := ((a.xok.step ga).step gb).step gc
    refine tg v d σ _ F2 M' H2 _ _ iv (wipe_env eg vs) o2 st fun σ2 ρ2 ew en2 q2 => ⟨ew, ρ2, F2, M', x, _, ⟨en2, o2, xo2⟩, q2, fun b F3 M3 H3 gd' o3 q3 => ?_⟩
    have g23 := gc.trans gd'
    have gg := gb.trans g23
    have fD3 : F3 Dd = none := g23.keepF eD fD mD
    have mD3 : M3 Dd = none := g23.keepM eD mD
    have eD3 : H3 Dd = some (.lst accv) := g23.fr Dd _ eD fD mD
    have ia3 := ia.mono g23.ex
    cases b with
    | false =>
      dsimp only at q3 ⊢
      rw [if_neg (by decide)] at q3 ⊢
      exact ⟨F3, M3, acc, accv, gg, gg.ex, o3, eD3, fD3, mD3, ia3, q3⟩
    | true =>
      dsimp only at q3 ⊢
      rw [if_pos rfl] at q3 ⊢
      have xo3 := xo2.step gd'
      have en3 := en2.mono gd'.ex
      refine ⟨ρ2, F3, M3, x, _, ⟨en3, o3, xo3⟩, q3, fun J1 es stay1 F4 M4 H4 ge o4 wk1 ⟨Pw, w0, step1, fin1⟩ => ?_⟩
      have eD4 : H4 Dd = some (.lst accv) := ge.fr Dd _ eD3 fD3 mD3
      refine ⟨fun j m H' => m = es.length - j ∧ j ≤ es.length ∧ Lc2I K F1 M1 H1 F4 Dd (Pw j) H', ⟨_, rfl, Nat.zero_le _, F4, M4, acc, accv, gg.trans ge, fun _ _ z => z, o4, eD4, ge.keepF eD3 fD3 mD3, ge.keepM eD3 mD3, ia3.mono ge.ex, w0⟩, ?_⟩
      rintro j m2 H5 ⟨rfl, hj, F5, M5, ac, acv, gf, sf, o5, eD5, fD5, mD5, ia5, pw⟩
      have xo5 := (a.xok.step ga).step gf
      by_cases hlj : j < es.length
      · have sm1 := (step1 j es[j] ac M5 (by simp [hlj]) pw).1
        refine .inr ⟨wk1.go j F5 M5 H5 sf o5 sm1 hlj, Lc2I K F1 M1 H1 F4 Dd (Pw (j + 1)), fun H6 z => ⟨es.length - (j + 1), by omega, rfl, hlj, z⟩, fun u H6 y1 => ?_⟩
        obtain ⟨F6, e, gh, o6, iu, ee⟩ := wk1.yld j F5 M5 H5 u H6 sf o5 sm1 hlj y1
        have st1 := (step1 j e ac M5 ee pw).2
        have eg6 := ((en3.mono ge.ex).mono sf).mono gh.ex
        refine tg1 u e σ2 _ F6 M5 H6 _ _ iu (wipe_env eg6 vs1) o6 st1 fun σ3 ρ3 ew3 en7 q7 => ⟨ew3, ρ3, F6, M5, x, _, ⟨en7, o6, xo5.step gh⟩, q7, fun b F7 M7 H7 gi o7 q8 => ?_⟩
        have g67 := gh.trans gi
        have fD7 : F7 Dd = none := g67.keepF eD5 fD5 mD5
        have mD7 : M7 Dd = none := g67.keepM eD5 mD5
        have eD7 : H7 Dd = some (.lst acv) := g67.fr Dd _ eD5 fD5 mD5
        have ia7 := ia5.mono g67.ex
        cases b with
        | false =>
          dsimp only at q8 ⊢
          rw [if_neg (by decide)] at q8 ⊢
          exact ⟨F7, M7, ac, acv, gf.trans g67, fun b o z => g67.ex b o (sf b o z), o7, eD7, fD7, mD7, ia7, q8⟩
        | true =>
          dsimp only at q8 ⊢
          rw [if_pos rfl] at q8 ⊢
          refine ⟨ρ3, F7, M7, x, _, ⟨en7.mono gi.ex, o7, (xo5.step gh).step gi⟩, q8, fun y z F8 M8 H8 gj o8 i8 ⟨few, q9⟩ => ?_⟩
          have fD8 : F8 Dd = none := gj.keepF eD7 fD7 mD7
          have mD8 : M8 Dd = none := gj.keepM eD7 mD7
          refine ⟨acv, gj.fr Dd _ eD7 fD7 mD7, ?_, F8, M8, ac ++ [z], acv ++ [y], (gf.trans (g67.trans gj)).setU hD, fun b o z => gj.ex b o (g67.ex b o (sf b o z)), o8.setU fD8 mD8 (o1.noS hD), upd_same, fD8, mD8, (ia7.mono gj.ex).app (.cons i8 .nil), q9⟩
          rw [ia7.len]
          exact Nat.lt_of_lt_of_le few (by decide)
      · obtain rfl : j = es.length := by omega
        obtain ⟨sm1, nx⟩ := fin1 ac M5 pw
        exact .inl ⟨wk1.stop F5 M5 H5 sf o5 sm1, F5, M5, ac, acv, gf, gf.ex, o5, eD5, fD5, mD5, ia5, nx⟩
  · obtain rfl : i = ds.length := by omega
    obtain ⟨sm, nx⟩ := fin acc M' pv
    exact .inl ⟨wk.stop F' M' H' gb.ex o' sm, kt Dd accv acc F' M' H' (ga.trans gb) o' (fresh0 ga hD) eD fD mD ia nx⟩
/-- [e for x in xs if t for y in ys if u] -/
theorem xl_lc2 {X : Cx} {elt tg iter tg1 iter1 : Expr} {ifs ifs1 : List Expr} {scope : Scope} {own : List (Str × Nat)} {vs1 : List Nat} {wi wi1 : DI} {g g1 : TG} {gd gd1 : DG} {tt tt1 : DT} {te : DE} {pos : Pos} (hc : X.calm = true) (hN : X.N.Nodup) (hi : XI X G tg iter wi) (ok : BlkOk X.N X.env.scope scope own)
    (hv : ∀ i ∈ vs1, i ∈ own.map (·.2)) (ht : TgOk X.K g gd (own.map (·.2))) (ht1 : TgOk X.K g1 gd1 vs1)
    (hg : ∀ (s : Shared) (H : Hp) (C : Addr) (cl : List (Str × Addr)) (fp : List Addr), PG (X.blk s H scope (compEnvC scope cl C X.env) fp) tg g)
    (htt : ∀ (s : Shared) (H : Hp) (C : Addr) (cl : List (Str × Addr)) (fp : List Addr), PTs (X.blk s H scope (compEnvC scope cl C X.env) fp) ifs (rT X.K G tt))
    (hi1 : ∀ (s : Shared) (H : Hp) (C : Addr) (cl : List (Str × Addr)) (fp : List Addr), PI (X.blk s H scope (compEnvC scope cl C X.env) fp) tg1 iter1 (rI X.K G wi1))
    (hg1 : ∀ (s : Shared) (H : Hp) (C : Addr) (cl : List (Str × Addr)) (fp : List Addr), PG (X.blk s H scope (compEnvC scope cl C X.env) fp) tg1 g1)
    (htt1 : ∀ (s : Shared) (H : Hp) (C : Addr) (cl : List (Str × Addr)) (fp : List Addr), PTs (X.blk s H scope (compEnvC scope cl C X.env) fp) ifs1 (rT X.K G tt1))
    (he : ∀ (s : Shared) (H : Hp) (C : Addr) (cl : List (Str × Addr)) (fp : List Addr), PE (X.blk s H scope (compEnvC scope cl C X.env) fp) elt (rE X.K G te))
    (hs : ∀ x, foldedSetIterable iter X.env x = pure x := by intro _; rfl) (hs1 : ∀ env x, foldedSetIterable iter1 env x = pure x := by intro _ _; rfl) :
    XL X G (.ListComp elt [⟨tg, iter, ifs, 0⟩, ⟨tg1, iter1, ifs1, 0⟩] scope pos) (wLc2 wi gd tt wi1 gd1 tt1 te (own.map (·.2)) vs1) :=
  PE.imp (pe_lc2 hc hN hi ok hv hg htt hi1 hg1 htt1 he hs hs1) fun σ H Q h => lc2_of ht ht1 h
/-- name = [e for x in xs if t for y in ys if u], as it is from now on -/
theorem ys_setLc2F {X : Cx} {i : Nat} {y : Str} {py pos spos : Pos} {elt tg iter tg1 iter1 : Expr} {ifs ifs1 : List Expr} {scope : Scope} {own : List (Str × Nat)} {vs1 : List Nat} {wi wi1 : DI} {g g1 : TG} {gd gd1 : DG} {tt tt1 : DT} {te : DE} (hc : X.calm = true) (hN : X.N.Nodup) (hy : X.N[i]? = some y) (hyl : X.env.scope.names.lookup y = some .local)
    (hsw : swapsWith (.ListComp elt [⟨tg, iter, ifs, 0⟩, ⟨tg1, iter1, ifs1, 0⟩] scope pos) (some (.Name y py)) spos.line X.env = pure true) (hi : XI X G tg iter wi) (ok : BlkOk X.N X.env.scope scope own)
    (hv : ∀ i ∈ vs1, i ∈ own.map (·.2)) (ht : TgOk X.K g gd (own.map (·.2))) (ht1 : TgOk X.K g1 gd1 vs1)
    (hg : ∀ (s : Shared) (H : Hp) (C : Addr) (cl : List (Str × Addr)) (fp : List Addr), PG (X.blk s H scope (compEnvC scope cl C X.env) fp) tg g)
    (htt : ∀ (s : Shared) (H : Hp) (C : Addr) (cl : List (Str × Addr)) (fp : List Addr), PTs (X.blk s H scope (compEnvC scope cl C X.env) fp) ifs (rT X.K G tt))
    (hi1 : ∀ (s : Shared) (H : Hp) (C : Addr) (cl : List (Str × Addr)) (fp : List Addr), PI (X.blk s H scope (compEnvC scope cl C X.env) fp) tg1 iter1 (rI X.K G wi1))
    (hg1 : ∀ (s : Shared) (H : Hp) (C : Addr) (cl : List (Str × Addr)) (fp : List Addr), PG (X.blk s H scope (compEnvC scope cl C X.env) fp) tg1 g1)
    (htt1 : ∀ (s : Shared) (H : Hp) (C : Addr) (cl : List (Str × Addr)) (fp : List Addr), PTs (X.blk s H scope (compEnvC scope cl C X.env) fp) ifs1 (rT X.K G tt1))
    (he : ∀ (s : Shared) (H : Hp) (C : Addr) (cl : List (Str × Addr)) (fp : List Addr), PE (X.blk s H scope (compEnvC scope cl C X.env) fp) elt (rE X.K G te))
    (hs : ∀ x, foldedSetIterable iter X.env x = pure x := by intro _; rfl) (hs1 : ∀ env x, foldedSetIterable iter1 env x = pure x := by intro _ _; rfl) :
    YS X G (.Assign [.Name y py] (.ListComp elt [⟨tg, iter, ifs, 0⟩, ⟨tg1, iter1, ifs1, 0⟩] scope pos) spos) (wSet i (wFrz (wLc2 wi gd tt wi1 gd1 tt1 te (own.map (·.2)) vs1))) :=
  PS.imp (ps_setLc2 hc hN hy hyl hsw hi ok hv hg htt hi1 hg1 htt1 he hs hs1) fun D σ H h => lc2_of ht ht1 (setL_frz h)
end
end TV

set_option Elab.async false
set_option linter.all false
set_option maxRecDepth 100000
set_option maxHeartbeats 1000000
/-! Defs that leave things behind in the store; new instances that never change. -/
namespace TV
open PySem PySem.Spec PyProof.Rows L2
/-- a part of a store -/
def SubM (M M' : MS) : Prop := ∀ a m, M a = some m → M' a = some m
theorem SubM.refl {M : MS} : SubM M M := fun _ _ h => h
theorem SubM.upd {M M' : MS} {p : Addr} {m : MO} (h : SubM M M') (n : M p = none) : SubM M (updM M' p m) := fun a m' e => by
  have ne : a ≠ p := fun z => by subst z; rw [n] at e; cases e
  rw [updM_ne ne]
  exact h a m' e
theorem SubM.upd2 {M M' : MS} {p : Addr} {m : MO} (h : SubM M M') : SubM (updM M p m) (updM M' p m) := fun a m' e => by
  by_cases z : a = p
  · subst z
    rw [updM_same] at e ⊢
    exact e
  · rw [updM_ne z] at e ⊢
    exact h a m' e
theorem HeapOk.part {K : PySem.W.Frag} {F : Hp} {M M' : MS} {H : Hp} (o : HeapOk K F M' H) (h : SubM M M') : HeapOk K F M H :=
  ⟨o.sub, fun a m e => o.mu a m (h a m e), let ⟨φ, a, b, c⟩ := o.sm; ⟨φ, a, b, by
    cases e : M sysModules with
    | none => rfl
    | some m => rw [h _ _ e] at c; cases c⟩⟩
theorem Gr.part {F F' : Hp} {M M' M2 : MS} {H H' : Hp} (g : Gr F M H F' M' H') (h : SubM M2 M') : Gr F M H F' M2 H' :=
  ⟨g.ex, g.fz, fun a n => g.mu a (by
    cases e : M2 a with
    | none => exact absurd e n
    | some m => rw [h _ _ e]; simp), g.fr, g.dom⟩
section
variable {P : Program} {w : World} {K : PySem.W.Frag} {mg : Str → Option Value} {base : Heap}
/-- THE RULE for a def whose own lists stay behind -/
theorem fnTW {x qual : Str} {st : Stmt} {f : Addr} {fd : FuncData} {N ps : List Str} {k : Nat} {sp : DSp} (F : Fun K x qual st f fd) (S : FnScope N ps (defScope st)) (len : ∀ ds M x k, sp ds M x k → ds.length = ps.length)
    (hN : ps.length ≤ N.length)
    (hbody : ∀ (cdv : Value) (A : Around) (outer : List Env) (s : Shared) (H : Hp) (E : XK), Rm k (A.deeper (envOfC qual (defScope st) s.heap.objs.size f cdv)) →
      ∃ w', YSs (cxOf CX0 P w K mg base N qual (defScope st) f cdv A outer s H E).nox E (defBody st) w' ∧
        ∀ ds M kk, sp ds M (fun _ _ _ => False) kk → w' { nx := fun _ M' => ∃ M2, SubM M2 M' ∧ kk .non M2, rt := fun d M' => ∃ M2, SubM M2 M' ∧ kk d M2 } (start0 N ds) M (fun _ _ _ => False))
    (hx : ∀ ds M x k, sp ds M x k → sp ds M (fun _ _ _ => False) k) :
    FnG P w K mg base CX0 (k + 1) f fd ps (rSp K sp) := by
  refine fnG_of F S (fun vs H Q E h => ?_) (fun cdv A outer s H vs Q E hr h => ?_)
  · obtain ⟨ds, F, M, x, kk, o, i, q, _⟩ := h
    rw [i.len]
    exact len _ _ _ _ q
  · obtain ⟨w', hw, hq⟩ := hbody cdv A outer s H E hr
    refine ⟨_, hw.nox, ?_⟩
    obtain ⟨ds, F, M, x, kk, o, i, q, kt, xo⟩ := h
    refine ⟨start0 N ds, F, M, fun _ _ _ => False, _, ⟨start_env i (by rw [len _ _ _ _ q]; exact hN), o, fun _ _ _ _ _ _ _ _ _ _ _ z => z.elim⟩, hq ds M kk (hx _ _ _ _ q), ⟨fun σ' ρ' F' M' H' g o' en z => ?_, fun v d F' M' H' g o' i' z => ?_, fun _ _ _ _ _ _ _ _ z => z.elim, fun _ _ _ _ _ _ _ _ z => z.elim⟩⟩
    · obtain ⟨M2, sub, z⟩ := z
      exact kt .non .non F' M2 H' (g.part sub) (o'.part sub) .non z
    · obtain ⟨M2, sub, z⟩ := z
      exact kt v d F' M2 H' (g.part sub) (o'.part sub) i' z
/-- .. that has defaults -/
theorem fnTWD {x qual : Str} {st : Stmt} {f : Addr} {fd : FuncData} {dvs : List V} {kws : List (Str × V)} {N ps : List Str} {k : Nat} {sp : DSp} (F : FunD K x qual (defArgs st) (defBody st) (defScope st) dvs kws f fd) (S : FnScope N ps (defScope st)) (len : ∀ ds M x k, sp ds M x k → ds.length = ps.length)
    (hN : ps.length ≤ N.length)
    (hbody : ∀ (cdv : Value) (A : Around) (outer : List Env) (s : Shared) (H : Hp) (E : XK), Rm k (A.deeper (envOfC qual (defScope st) s.heap.objs.size f cdv)) →
      ∃ w', YSs (cxOf CX0 P w K mg base N qual (defScope st) f cdv A outer s H E).nox E (defBody st) w' ∧
        ∀ ds M kk, sp ds M (fun _ _ _ => False) kk → w' { nx := fun _ M' => ∃ M2, SubM M2 M' ∧ kk .non M2, rt := fun d M' => ∃ M2, SubM M2 M' ∧ kk d M2 } (start0 N ds) M (fun _ _ _ => False))
    (hx : ∀ ds M x k, sp ds M x k → sp ds M (fun _ _ _ => False) k) :
    FnG P w K mg base CX0 (k + 1) f fd ps (rSp K sp) := by
  refine fnG_ofD F S (fun vs H Q E h => ?_) (fun cdv A outer s H vs Q E hr h => ?_)
  · obtain ⟨ds, F, M, x, kk, o, i, q, _⟩ := h
    rw [i.len]
    exact len _ _ _ _ q
  · obtain ⟨w', hw, hq⟩ := hbody cdv A outer s H E hr
    refine ⟨_, hw.nox, ?_⟩
    obtain ⟨ds, F, M, x, kk, o, i, q, kt, xo⟩ := h
    refine ⟨start0 N ds, F, M, fun _ _ _ => False, _, ⟨start_env i (by rw [len _ _ _ _ q]; exact hN), o, fun _ _ _ _ _ _ _ _ _ _ _ z => z.elim⟩, hq ds M kk (hx _ _ _ _ q), ⟨fun σ' ρ' F' M' H' g o' en z => ?_, fun v d F' M' H' g o' i' z => ?_, fun _ _ _ _ _ _ _ _ z => z.elim, fun _ _ _ _ _ _ _ _ z => z.elim⟩⟩
    · obtain ⟨M2, sub, z⟩ := z
      exact kt .non .non F' M2 H' (g.part sub) (o'.part sub) .non z
    · obtain ⟨M2, sub, z⟩ := z
      exact kt v d F' M2 H' (g.part sub) (o'.part sub) i' z
end
section
variable {X : Cx} {CX : CXT} {G : XK} {k : Nat} {f C : Addr} {fd : FuncData} {ps : List Str} {sp : DSp} {e : Expr} {es : List Expr} {w : DA} {pos p : Pos} {x : Str} {dvs : List V} {dds : List D} {us : List Value}
/-- C(..), as it is from now on; dds: the defaults that are left -/
def wMakeF (C : Addr) (dds : List D) (sp : DSp) (w : DA) : DE := fun ρ M x k => w ρ M x fun ds M1 => ∀ a, M1 a = none → sp (.obj a :: (ds ++ dds)) (updM M1 a (.ins C [])) x fun d M2 => d = .non ∧ ∃ fs, M2 a = some (.ins C fs) ∧ k (.ins C fs) (delM M2 a)
theorem xmakeF (Mk : Mk X.K C f) (F : FnG X.prog X.w X.K X.mg X.base CX k f fd ps (rSp X.K sp)) (hr : Rm (k + 1) X.A) (hg : Gl X x) (hm : X.mg x = some (.ref C)) (hb : Binds X.K fd ps us) (hd : Vals dvs us) (hdd : ∀ F, IsDs X.K F dvs dds) (hx : Passes CX X G) (ha : XA X G (e :: es) w)
    (hdb : (x == ("__debug__" : Str)) = false := by decide) (he : starEach (e :: es) X.env = (false, eval e X.env) :: starEach es X.env := by rfl) (hpl : (backTo pos (starEach es X.env)).any (·.1) = false := by rfl) :
    XE X G (.Call (.Name x p) (e :: es) [] pos) (wMakeF C dds sp w) :=
  PE.imp (pe_makeG Mk F hr hg hm hb hd hx ha hdb he hpl) fun σ H Q ⟨ρ, F0, M, xd, k, a, q, kt⟩ => ⟨ρ, F0, M, xd, _, a, q, fun vs ds F1 M1 H1 g1 o1 i1 q1 => by
    intro px dx hpx hdx hne
    have hpx' : (upd H1 dx (.own px)) px = none := by rw [upd_ne (fun z => hne z.symm)]; exact hpx
    have ga : Gr F1 M1 H1 F1 M1 (upd H1 dx (.own px)) := .newU hdx
    have oa : HeapOk X.K F1 M1 (upd H1 dx (.own px)) := o1.newU hdx
    have gb : Gr F1 M1 H1 F1 (updM M1 px (.ins C [])) (upd (upd H1 dx (.own px)) px (.ins C dx [])) := ga.trans (.newM hpx')
    have ob : HeapOk X.K F1 (updM M1 px (.ins C [])) (upd (upd H1 dx (.own px)) px (.ins C dx [])) := oa.put (oa.noF hpx') (.ins .nil) (o1.noS hpx)
    refine ⟨.obj px :: (ds ++ dds), F1, updM M1 px (.ins C []), xd, _, ob, .cons .obj (i1.app (hdd F1)), q1 px (o1.noM hpx), fun v d F3 M3 H3 g3 o3 i3 ⟨ed, fs, em, q3⟩ => ?_, (a.xok.step g1).step gb⟩
    subst ed
    obtain ⟨nf, ob3, hp3, mo⟩ := o3.mu px _ em
    cases mo with
    | ins r =>
      rename_i dx3 gs
      exact ⟨by cases i3; rfl, kt _ _ (upd F3 px (.ins C dx3 gs)) (delM M3 px) H3 (((g1.trans gb).trans g3).trans (Gr.melt nf em)) (o3.melt em hp3) (.ins upd_same (r.mono (Same.upd nf))) q3⟩⟩
end
end TV

set_option Elab.async false
set_option linter.all false
set_option maxRecDepth 100000
set_option maxHeartbeats 1000000
/-! Walks over a list or a tuple, enumerate of a tuple. -/
namespace TV
open PySem PySem.Spec PyProof.Rows L2
section
variable {X : Cx} {G : XK} {tg e : Expr} {w1 w2 : DI}
def wiOr (w1 w2 : DI) : DI := fun ρ M x k => w1 ρ M x k ∨ w2 ρ M x k
theorem xi_or (h1 : XI X G tg e w1) (h2 : XI X G tg e w2) : XI X G tg e (wiOr w1 w2) :=
  ⟨fun pins s σ H R I ⟨ρ, F, M, x, k, a, q, kt⟩ => by
    rcases q with q | q
    · exact h1.run pins s σ H R I ⟨ρ, F, M, x, k, a, q, kt⟩
    · exact h2.run pins s σ H R I ⟨ρ, F, M, x, k, a, q, kt⟩⟩
end
/-! ### enumerate(t) -/
theorem new_enumT (l : Addr) (items : Array Value) (n : Nat) (dd : Option Addr) (sl : Array (Option Value)) :
    Meets (Builtin.«enumerate.__new__» ⟨[.type "enumerate", .ref l], []⟩) (fun _ R s => s.heap.get? l = some { cls := .type "tuple", dict := dd, data := .seq items n, slots := sl } ∧
      R (.ok (.ret (.ref (s.heap.push { cls := .type "tuple_iterator", data := .fields #[.ref l, .int 0 0] }).objs.size)))
        { s with heap := (s.heap.push { cls := .type "tuple_iterator", data := .fields #[.ref l, .int 0 0] }).push { cls := .type "enumerate", data := .fields #[.none, .bool false, .ref s.heap.objs.size, rawInt 0, .none, .none] } }) :=
  .of_wp fun prog w A R s h => by
    obtain ⟨hp, g, d, tk, os⟩ := s
    obtain ⟨hl, h⟩ := h
    have sub := sub_enumerate
    have it : Heap.IsTuple (Shared.heap ⟨hp, g, d, tk, os⟩) l items := ⟨_, hl, rfl, n, rfl⟩
    wp_walk using AutoSeq1.wpAny_loadPart' hl
    refine wpAny_stack_any fun st => wpAny_pure ?_
    split
    · rename_i c _ _ _ _ _
      cases (c == Value.type "enumerate")
      · wp_walk using AutoSeq1.wpAny_loadPart' hl, wpAny_pyIter_tuple it
        exact ⟨_, rfl, h⟩
      · wp_walk using AutoSeq1.wpAny_loadPart' hl, wpAny_pyIter_tuple it
        exact ⟨_, rfl, h⟩
    · wp_walk using AutoSeq1.wpAny_loadPart' hl, wpAny_pyIter_tuple it
      exact ⟨_, rfl, h⟩
section
variable {prog : Program} {w : World} {A : Around} {E : Value → Shared → Prop} {s : Shared}
theorem call_enumT {l : Addr} {items : Array Value} {Q : Value → Shared → Prop} (hT : s.heap.IsTuple l items)
    (h : ∀ h', IsEnum h' (s.heap.objs.size + 1) s.heap.objs.size 0 .none → h'.IsTupleIter s.heap.objs.size l 0 → h'.IsTuple l items → (∀ b o, s.heap.get? b = some o → h'.get? b = some o) → Q (.ref (s.heap.objs.size + 1)) { s with heap := h' }) :
    wpAny (model prog w) A (call (.type "enumerate") [.ref l]) Q E s := by
  obtain ⟨⟨c, dd, dt, sl⟩, hl, hc, n, hd⟩ := id hT
  simp only at hc hd
  subst hc
  subst hd
  refine callType_new PySem.F.called_enumerate (by decide) (PySem.F.typeCall_enumerate_1 _) (PySem.F.newCall_enumerate_1 _) (fun obj => PySem.F.args_object_init_2 obj _) PySem.F.entry_enumerate_new (new_enumT l items n dd sl) ⟨hl, ?_⟩
  have size1 : (s.heap.push { cls := .type "tuple_iterator", data := .fields #[.ref l, .int 0 0] }).objs.size = s.heap.objs.size + 1 := Heap.size_push ..
  show _ ∧ _
  rw [size1]
  have he : IsEnum ((s.heap.push { cls := .type "tuple_iterator", data := .fields #[.ref l, .int 0 0] }).push { cls := .type "enumerate", data := .fields #[.none, .bool false, .ref s.heap.objs.size, rawInt 0, .none, .none] }) (s.heap.objs.size + 1) s.heap.objs.size 0 .none := by
    have q := Heap.get?_push_size (s.heap.push { cls := .type "tuple_iterator", data := .fields #[.ref l, .int 0 0] }) (o := { cls := .type "enumerate", data := .fields #[.none, .bool false, .ref s.heap.objs.size, rawInt 0, .none, .none] }) rfl
    rwa [size1] at q
  exact ⟨⟨_, he, rfl⟩, h _ he ⟨_, Heap.get?_push_of_some _ (Heap.get?_push_size _ rfl), rfl, rfl⟩ ((hT.push _).push _) fun b o x => Heap.get?_push_of_some _ (Heap.get?_push_of_some _ x)⟩
end
/-- the tuple at a, each item in a new pair -/
def IteT (K : PySem.W.Frag) (a : Addr) : It :=
  ⟨fun i H => ∃ (xs : List V) (x : V), SqT K H a xs ∧ xs[i]? = some x, fun i H v H' => ∃ T x, v = .ref T ∧ H T = none ∧ H' = upd H T (.tup [.int (i : Nat), x]) ∧ ∀ xs, SqT K H a xs → xs[i]? = some x, fun i H => ∃ xs : List V, SqT K H a xs ∧ xs.length = i⟩
theorem turn_enumT {P : Program} {w : World} {K : PySem.W.Frag} {elts : List Expr} {kk : Nat} {tpos : Pos} (a e it : Addr) :
    Turn P w K (.Tuple elts kk tpos) (IteT K a) [e, it] e (fun i h => (∃ old, IsEnum h e it ((i : Nat) : Int) old) ∧ h.IsTupleIter it a i ∧ e ≠ it) where
  mem := by simp
  obj := fun i h st b hb => by
    obtain ⟨⟨old, he⟩, ⟨o, ho, hc, hd⟩, _⟩ := st
    rcases (show b = e ∨ b = it by simpa using hb) with rfl | rfl
    · exact ⟨_, he, fun v q => nomatch q⟩
    · exact ⟨o, ho, fun v q => by rw [hd] at q; cases q⟩
  keep := fun i h h' st k => let ⟨⟨old, he⟩, hi, hne⟩ := st; ⟨⟨old, k e (by simp) _ he⟩, hi.at fun o q => k it (by simp) o q, hne⟩
  item := by
    intro X hP hw hK hc i pins s σ H E I hf st hg
    subst hP hw hK
    obtain ⟨⟨old, he⟩, hit, hne⟩ := st
    obtain ⟨xs, x, hq, hx⟩ := hg
    obtain ⟨its, rv, p, hz⟩ := I.tuple hq
    have p' : s.heap.IsTuple a its.toArray := p
    obtain ⟨u, hu, ru⟩ := rv.get hx
    have lt1 : e < s.heap.objs.size := Heap.lt_size he
    have lt2 : it < s.heap.objs.size := by obtain ⟨_, q, _⟩ := hit; exact Heap.lt_size q
    have ai : a ≠ it := fun z => by
      obtain ⟨o1, q1, c1, _⟩ := hit
      obtain ⟨o2, q2, c2, _⟩ := p'
      rw [z, q1] at q2
      cases q2
      rw [c1] at c2
      simp at c2
    have ae : e ≠ a := fun z => by
      obtain ⟨o2, q2, c2, _⟩ := p'
      rw [← z] at q2
      have q3 : s.heap.get? e = some _ := he
      rw [q3] at q2
      cases q2
      simp at c2
    refine wpAny_pyNext_enum_itemD (Draws.tuple (A := X.A.in1) (by show X.A.handled = none; exact I.ok.hd hc) it a ai its.toArray) he ⟨hit, p'⟩ (by
      have := (List.getElem?_eq_some_iff.mp hu).1
      simpa using this) hne (by simp [hne, ae]) fun y h' tk hP ho hit' hT hsz hk => ?_
    have ey : y = u := by
      have : its.toArray[i]? = some y := hP
      rw [List.getElem?_toArray, hu] at this
      exact (Option.some.inj this).symm
    subst ey
    refine ⟨_, rfl, wpAny_letOwnedTupleGo_enum (s := { s with heap := h', toks := tk + 1 }) ho fun h'' he' sb => ?_⟩
    have made : h''.get? s.heap.objs.size = some { cls := .type "tuple", data := .seq #[.int i tk, y] } := (sb.2 _ (Nat.ne_of_gt lt1)).trans hT
    have new : ObjOk X.prog X.w (upd H s.heap.objs.size (.tup [.int (i : Nat), x])) h'' s.heap.objs.size (.tup [.int (i : Nat), x]) :=
      ⟨by show 2 ≤ sizeLine; decide, [.int i tk, y], .cons ⟨_, rfl⟩ (.cons ru .nil), ⟨_, made, rfl, _, rfl⟩⟩
    have I1 : L2.Inv X pins σ (upd H s.heap.objs.size (.tup [.int (i : Nat), x])) { s with heap := h'', toks := tk + 1 } :=
      I.turnedNew (ch := [e, it]) (fun b ob hb q => (sb.2 b (fun z => hb (by simp [z]))).trans (hk b ob (fun z => hb (by simp [z])) (fun z => hb (by simp [z])) q)) hf (Nat.le_refl _) new
    refine ⟨.ref s.heap.objs.size, _, I1, rfl, ⟨_, x, rfl, I.hok.fresh (Nat.le_refl _), rfl, fun ys hy => by rw [I.tuple_inj hy hq]; exact hx⟩, ⟨⟨y, ?_⟩, hit'.1.at fun o q => (sb.2 it (Ne.symm hne)).trans q, hne⟩, fun b hb => ?_⟩
    · have e1 : ((i + 1 : Nat) : Int) = (i : Int) + 1 := by omega
      rw [e1]
      exact he'
    · have hb' : b < s.heap.objs.size := by
        rcases (show b = e ∨ b = it by simpa using hb) with rfl | rfl
        · exact lt1
        · exact lt2
      rw [upd_ne (Nat.ne_of_lt hb')]
      exact (hf b hb).1
  done := by
    intro X hP hw hK hc i pins s σ H E I hf st hg
    subst hP hw hK
    obtain ⟨⟨old, he⟩, hit, hne⟩ := st
    obtain ⟨xs, hq, hx⟩ := hg
    obtain ⟨its, rv, p, hz⟩ := I.tuple hq
    have p' : s.heap.IsTuple a its.toArray := p
    obtain ⟨f0, f1, f2, f3, f4, f5⟩ := hf it (by simp)
    have sz : i = its.toArray.size := by rw [List.size_toArray, ← rv.length, hx]
    subst sz
    have ai : a ≠ it := fun z => by
      obtain ⟨o1, q1, c1, _⟩ := hit
      obtain ⟨o2, q2, c2, _⟩ := p'
      rw [z, q1] at q2
      cases q2
      rw [c1] at c2
      simp at c2
    exact wpAny_pyNext_enum_endD (Draws.tuple (A := X.A.in1) (by show X.A.handled = none; exact I.ok.hd hc) it a ai its.toArray) he ⟨hit, p'⟩ fun h' eb => ⟨rfl, I.turned (t' := s.toks) (fun b o hb q => eb b o hb q) f0 f1 f3 f4 f5⟩
  self := fun A i s Q E st h => let ⟨⟨_, he⟩, _⟩ := st; wpAny_pyIter_enum he h
def iEnumT (K : PySem.W.Frag) (ta : TA) : TI := fun σ H R => ta σ H fun vs H1 => ∃ a xs, vs = [.ref a] ∧ SqT K H1 a xs ∧ R (IteT K a) H1
theorem pi_enumT {X : Cx} {e : Expr} {ta : TA} {p pos tpos : Pos} {elts : List Expr} {kk : Nat} (hg : Gl X "enumerate") (hm : X.mg "enumerate" = none) (ha : PA X [e] ta) (hs : starEach [e] X.env = [(false, eval e X.env)] := by rfl) :
    PI X (.Tuple elts kk tpos) (.Call (.Name "enumerate" p) [e] [] pos) (iEnumT X.K ta) := by
  refine ⟨fun pins s σ H R I h => Call_ (ld_blt I hg hm boot_enumerate (PyProof.Rows.callWith_type1 (thn (ha.run pos pins s σ H _ I h) fun us s1 ⟨vs, H1, I1, r1, q1⟩ => ?_) hs rfl))⟩
  obtain ⟨a, xs, ex, hq, q⟩ := q1
  subst ex
  obtain ⟨u, rfl, ru⟩ := r1.one
  cases ru
  obtain ⟨its, rv, p', hz⟩ := I1.tuple hq
  refine call_enumT p' fun h' he hit _ hk => wpAny_pyIter_enum he ?_
  have I2 : L2.Inv X pins σ H1 { s1 with heap := h' } := I1.kept (t' := s1.toks) hk
  refine ⟨s1.heap.objs.size + 1, [s1.heap.objs.size + 1, s1.heap.objs.size], _, _, H1, rfl, I2, turn_enumT a (s1.heap.objs.size + 1) s1.heap.objs.size, ⟨⟨.none, he⟩, hit, Nat.succ_ne_self _⟩, fun b hb => ?_, q⟩
  have hle : s1.heap.objs.size ≤ b := by
    rcases (show b = s1.heap.objs.size + 1 ∨ b = s1.heap.objs.size by simpa using hb) with rfl | rfl
    · exact Nat.le_add_right _ _
    · exact Nat.le_refl _
  exact I1.fpOk hle (I1.hok.fresh hle)
theorem walks_enumT {K : PySem.W.Frag} {F0 : Hp} {a : Addr} {ds : List D} {stay : MS → Prop} (h : ∀ F M H, Same F0 F → HeapOk K F M H → stay M → ∃ xs, SqT K H a xs ∧ IsDs K F xs ds) : Walks K (IteT K a) (pairsN 0 ds) stay F0 where
  go := fun i F M H e o s hi => by
    rw [pairsN_len] at hi
    obtain ⟨xs, q, r⟩ := h F M H e o s
    exact ⟨xs, xs[i]'(by rw [r.len]; exact hi), q, by simp [r.len, hi]⟩
  stop := fun F M H e o s => by
    obtain ⟨xs, q, r⟩ := h F M H e o s
    exact ⟨xs, q, by rw [pairsN_len, r.len]⟩
  yld := fun i F M H x H' e o s hi y => by
    obtain ⟨xs, q, r⟩ := h F M H e o s
    obtain ⟨T, x', rfl, nT, rfl, y⟩ := y
    obtain ⟨d, ed, hd⟩ := r.getV i (y xs q)
    refine ⟨upd F T (.tup [.int (i : Nat), x']), _, .frz (o.noF nT) nT, o.frz nT, .tup (.of upd_same) (.cons .int (.cons (hd.mono (Same.upd (o.noF nT))) .nil)), ?_⟩
    rw [pairsN_get 0 ds i d ed, Nat.zero_add]
section
variable {X : Cx} {G : XK}
def wiEnumT (w : DA) : DI := fun ρ M x k => w ρ M x fun ds M1 => ∃ es, ds = [.tup es] ∧ k (pairsN 0 es) (fun _ => True) M1
theorem xi_enumT {e : Expr} {elts : List Expr} {kk : Nat} {tpos p pos : Pos} {w : DA} (hg : Gl X "enumerate") (hm : X.mg "enumerate" = none) (ha : XA X G [e] w) (hs : starEach [e] X.env = [(false, eval e X.env)] := by rfl) : XI X G (.Tuple elts kk tpos) (.Call (.Name "enumerate" p) [e] [] pos) (wiEnumT w) :=
  PI.imp (pi_enumT hg hm ha hs) fun σ H R ⟨ρ, F, M, x, k, a, q, kt⟩ => ⟨ρ, F, M, x, _, a, q, fun vs ds F1 M1 H1 g1 o1 i1 ⟨es, ed, q1⟩ => by
    subst ed
    obtain ⟨v, rfl, iv⟩ := isDs1 i1
    obtain ⟨p, xs, rfl, hp, r, _⟩ := asTup o1 iv (M := M1) rfl
    exact ⟨p, xs, rfl, hp, kt _ _ _ F1 M1 H1 g1 o1 (walks_enumT fun F M H e' o' st => by
      obtain ⟨p', xs', ep, s', r', _⟩ := asTup o' (iv.mono e') (M := M) rfl
      cases ep
      exact ⟨xs', s', r'⟩) q1⟩⟩
/-- a list or a tuple of such things -/
def seqOf (M : MS) (d : D) (xs : List D) : Prop := view M d = .lst xs ∨ d = .tup xs
def wiSeq (w : DE) : DI := wiOr (wiL w) (wiT w)
def wiEnumB (w : DA) : DI := wiOr (wiEnum w) (wiEnumT w)
theorem xi_seq {tg e : Expr} {w : DE} (h : XE X G e w) : XI X G tg e (wiSeq w) := xi_or (xi_list h) (xi_tup h)
theorem xi_enumB {e : Expr} {elts : List Expr} {kk : Nat} {tpos p pos : Pos} {w : DA} (hg : Gl X "enumerate") (hm : X.mg "enumerate" = none) (ha : XA X G [e] w) (hs : starEach [e] X.env = [(false, eval e X.env)] := by rfl) : XI X G (.Tuple elts kk tpos) (.Call (.Name "enumerate" p) [e] [] pos) (wiEnumB w) :=
  xi_or (xi_enum hg hm ha hs) (xi_enumT hg hm ha hs)
variable {ρ : DSt} {M : MS} {x : XD} {d : D} {xs : List D} {i : Nat} {k : List D → (MS → Prop) → MS → Prop}
theorem in_seq (e : ρ[i]? = some (some d)) (h : seqOf M d xs) (hk : ∀ stay : MS → Prop, (∀ M2, seqOf M2 d xs → stay M2) → k xs stay M) : wiSeq (wVar i) ρ M x k := by
  rcases h with h | h
  · exact .inl ⟨d, e, xs, h, hk _ fun M2 h2 => by
      rcases h2 with h2 | h2
      · exact h2
      · subst h2
        cases h⟩
  · exact .inr ⟨d, e, xs, h, hk _ fun _ _ => True.intro⟩
theorem in_enumB (e : ρ[i]? = some (some d)) (h : seqOf M d xs) (hk : ∀ stay : MS → Prop, (∀ M2, seqOf M2 d xs → stay M2) → k (pairsN 0 xs) stay M) : wiEnumB (wCons (wVar i) wNil) ρ M x k := by
  rcases h with h | h
  · exact .inl ⟨d, e, d, xs, rfl, h, hk _ fun M2 h2 => by
      rcases h2 with h2 | h2
      · exact h2
      · subst h2
        cases h⟩
  · subst h
    exact .inr ⟨_, e, xs, rfl, hk _ fun _ _ => True.intro⟩
end
section
variable {X : Cx} {G : XK} {e : Expr} {w1 w2 : DE}
/-- one reading or the other -/
def wEither (w1 w2 : DE) : DE := fun ρ M x k => w1 ρ M x k ∨ w2 ρ M x k
theorem xe_either (h1 : XE X G e w1) (h2 : XE X G e w2) : XE X G e (wEither w1 w2) :=
  ⟨fun pins s σ H Q I ⟨ρ, F, M, x, k, a, q, kt⟩ => by
    rcases q with q | q
    · exact h1.run pins s σ H Q I ⟨ρ, F, M, x, k, a, q, kt⟩
    · exact h2.run pins s σ H Q I ⟨ρ, F, M, x, k, a, q, kt⟩⟩
end
end TV

set_option Elab.async false
set_option linter.all false
set_option maxRecDepth 100000
set_option maxHeartbeats 1000000
/-! Plain data: equality, pictures. -/
namespace TV
open PySem PySem.Spec PyProof.Rows L2
/-! ### numbers, texts, lists and tuples of such: == is equality -/
mutual
def fineP : PyData → Bool
  | .int _ => true
  | .str _ => true
  | .list xs => fineAll xs
  | .tuple xs => fineAll xs
  | .none => false
  | .bool _ => false
  | .dict _ => false
def fineAll : List PyData → Bool
  | [] => true
  | x :: xs => fineP x && fineAll xs
end
mutual
theorem eqv_eq : ∀ p q : PyData, fineP p = true → fineP q = true → (PyData.eqv p q = true ↔ p = q)
  | .int i, .int j, _, _ => by simp [PyData.eqv]
  | .str i, .str j, _, _ => by simp [PyData.eqv]
  | .list xs, .list ys, h, k => by
    rw [PyData.eqv, eqv_all xs ys (by simpa [fineP] using h) (by simpa [fineP] using k)]
    simp
  | .tuple xs, .tuple ys, h, k => by
    rw [PyData.eqv, eqv_all xs ys (by simpa [fineP] using h) (by simpa [fineP] using k)]
    simp
  | .int _, .str _, _, _ => by simp [PyData.eqv]
  | .int _, .list _, _, _ => by simp [PyData.eqv]
  | .int _, .tuple _, _, _ => by simp [PyData.eqv]
  | .str _, .int _, _, _ => by simp [PyData.eqv]
  | .str _, .list _, _, _ => by simp [PyData.eqv]
  | .str _, .tuple _, _, _ => by simp [PyData.eqv]
  | .list _, .int _, _, _ => by simp [PyData.eqv]
  | .list _, .str _, _, _ => by simp [PyData.eqv]
  | .list _, .tuple _, _, _ => by simp [PyData.eqv]
  | .tuple _, .int _, _, _ => by simp [PyData.eqv]
  | .tuple _, .str _, _, _ => by simp [PyData.eqv]
  | .tuple _, .list _, _, _ => by simp [PyData.eqv]
  | .none, _, h, _ => by simp [fineP] at h
  | .bool _, _, h, _ => by simp [fineP] at h
  | .dict _, _, h, _ => by simp [fineP] at h
  | .int _, .none, _, h => by simp [fineP] at h
  | .int _, .bool _, _, h => by simp [fineP] at h
  | .int _, .dict _, _, h => by simp [fineP] at h
  | .str _, .none, _, h => by simp [fineP] at h
  | .str _, .bool _, _, h => by simp [fineP] at h
  | .str _, .dict _, _, h => by simp [fineP] at h
  | .list _, .none, _, h => by simp [fineP] at h
  | .list _, .bool _, _, h => by simp [fineP] at h
  | .list _, .dict _, _, h => by simp [fineP] at h
  | .tuple _, .none, _, h => by simp [fineP] at h
  | .tuple _, .bool _, _, h => by simp [fineP] at h
  | .tuple _, .dict _, _, h => by simp [fineP] at h
theorem eqv_all : ∀ xs ys : List PyData, fineAll xs = true → fineAll ys = true → (PyData.eqvAll xs ys = true ↔ xs = ys)
  | [], [], _, _ => by simp [PyData.eqvAll]
  | [], _ :: _, _, _ => by simp [PyData.eqvAll]
  | _ :: _, [], _, _ => by simp [PyData.eqvAll]
  | x :: xs, y :: ys, h, k => by
    rw [fineAll, Bool.and_eq_true] at h k
    rw [PyData.eqvAll, Bool.and_eq_true, eqv_eq x y h.1 k.1, eqv_all xs ys h.2 k.2]
    simp
end
theorem eqv_dec [DecidableEq PyData] {p q : PyData} (h : fineP p = true) (k : fineP q = true) : PyData.eqv p q = decide (p = q) := by
  by_cases e : p = q
  · rw [decide_eq_true e, (eqv_eq p q h k).mpr e]
  · rw [decide_eq_false e]
    cases z : PyData.eqv p q with
    | false => rfl
    | true => exact absurd ((eqv_eq p q h k).mp z) e
theorem fine_map {α : Type} {f : α → PyData} : ∀ xs : List α, (∀ x ∈ xs, fineP (f x) = true) → fineAll (xs.map f) = true
  | [], _ => rfl
  | x :: xs, h => by
    rw [List.map_cons, fineAll, h x (List.mem_cons_self ..), fine_map xs fun y hy => h y (List.mem_cons_of_mem _ hy)]
    rfl
theorem lay_map {α : Type} {f : α → PyData} : ∀ xs : List α, (∀ x ∈ xs, (f x).canLay0 = true) → PyData.canLayAll0 (xs.map f) = true
  | [], _ => rfl
  | x :: xs, h => by
    rw [List.map_cons, PyData.canLayAll0, h x (List.mem_cons_self ..), lay_map xs fun y hy => h y (List.mem_cons_of_mem _ hy)]
    rfl
theorem dep_map {α : Type} {f : α → PyData} {n : Nat} : ∀ xs : List α, (∀ x ∈ xs, (f x).depth ≤ n) → PyData.depthAll (xs.map f) ≤ n
  | [], _ => Nat.zero_le _
  | x :: xs, h => by
    rw [List.map_cons, PyData.depthAll]
    exact Nat.max_le.mpr ⟨h x (List.mem_cons_self ..), dep_map xs fun y hy => h y (List.mem_cons_of_mem _ hy)⟩
theorem show_map {α : Type} {f : α → PyData} : ∀ xs : List α, (∀ x ∈ xs, (f x).showable = true) → PyData.showableAll (xs.map f) = true
  | [], _ => rfl
  | x :: xs, h => by
    rw [List.map_cons, PyData.showableAll, h x (List.mem_cons_self ..), show_map xs fun y hy => h y (List.mem_cons_of_mem _ hy)]
    rfl
theorem py_map {α : Type} {g : α → D} {f : α → PyData} (h : ∀ x, toPy (g x) = some (f x)) : ∀ xs : List α, toPys (xs.map g) = some (xs.map f)
  | [] => rfl
  | x :: xs => by
    rw [List.map_cons, toPys, h x, py_map h xs]
    rfl
theorem r_map {α : Type} {g : α → D} {f : α → PyData} (h : ∀ x, toR (g x) = some (f x)) : ∀ xs : List α, toRs (xs.map g) = some (xs.map f)
  | [] => rfl
  | x :: xs => by
    rw [List.map_cons, toRs, h x, r_map h xs]
    rfl
/-! ### how long pictures are -/
theorem from_len (b : Nat) : ∀ (ts : List Str) (k : Nat) (acc : Str), (∀ t ∈ ts, t.length ≤ b) → (textFrom k acc ts).length ≤ acc.length + ts.length * (b + 2)
  | [], k, acc, _ => by
    rw [textFrom]
    simp
  | t :: ts, k, acc, h => by
    rw [textFrom]
    have ih := from_len b ts (k + 1) (acc ++ Str.ofString (if k > 0 then ", " else "") ++ t) fun x hx => h x (List.mem_cons_of_mem _ hx)
    have e : (Str.ofString (if k > 0 then ", " else "")).length ≤ 2 := by split <;> decide +kernel
    have ht := h t (List.mem_cons_self ..)
    rw [len_app, len_app] at ih
    rw [List.length_cons, Nat.succ_mul]
    omega
theorem shown_all {α : Type} {f : α → PyData} : ∀ xs : List α, PyData.shownAll (xs.map f) = xs.map fun x => (f x).shown
  | [] => rfl
  | x :: xs => by rw [List.map_cons, PyData.shownAll, shown_all xs, List.map_cons]
theorem shown_list {α : Type} {f : α → PyData} {b : Nat} (xs : List α) (h : ∀ x ∈ xs, (f x).shown.length ≤ b) : (PyData.list (xs.map f)).shown.length ≤ 2 + xs.length * (b + 2) := by
  rw [PyData.shown, shown_all]
  unfold listText
  rw [len_app]
  have := from_len b (xs.map fun x => (f x).shown) 0 "[" fun t ht => by
    obtain ⟨x, hx, rfl⟩ := List.mem_map.mp ht
    exact h x hx
  have e1 : (Str.ofString "[").length = 1 := by decide +kernel
  have e2 : (Str.ofString "]").length = 1 := by decide +kernel
  rw [List.length_map] at this
  rw [e1] at this
  rw [e2]
  omega
theorem piled_le (b : Nat) : ∀ ts : List Str, (∀ t ∈ ts, t.length ≤ b) → piled ts ≤ ts.length * (b + 2)
  | [], _ => Nat.zero_le _
  | t :: ts, h => by
    have ih := piled_le b ts fun x hx => h x (List.mem_cons_of_mem _ hx)
    have ht := h t (List.mem_cons_self ..)
    have e : piled (t :: ts) = t.length + 2 + piled ts := by simp [piled]
    rw [e, List.length_cons, Nat.succ_mul]
    omega
theorem shown_tuple {α : Type} {f : α → PyData} {b : Nat} (xs : List α) (h : ∀ x ∈ xs, (f x).shown.length ≤ b) : (PyData.tuple (xs.map f)).shown.length ≤ 3 + xs.length * (b + 2) := by
  rw [PyData.shown, shown_all]
  unfold tupleText
  rw [len_app, len_app]
  have e1 : (("(" : Str)).length = 1 := by decide +kernel
  have e2 : (Str.ofString (if (xs.map fun x => (f x).shown).length == 1 then ",)" else ")")).length ≤ 2 := by split <;> decide +kernel
  have e3 : (Str.join ", " (xs.map fun x => (f x).shown)).length ≤ xs.length * (b + 2) := by
    cases xs with
    | nil => exact Nat.le_trans (show (Str.join ", " []).length ≤ 0 by decide +kernel) (Nat.zero_le _)
    | cons x xs =>
      have j := join_length_add ((x :: xs).map fun x => (f x).shown) (by simp)
      have p := piled_le b ((x :: xs).map fun x => (f x).shown) fun t ht => by
        obtain ⟨y, hy, rfl⟩ := List.mem_map.mp ht
        exact h y hy
      rw [List.length_map] at p
      omega
  rw [e1]
  omega
/-! ### data that can be laid and shown -/
structure Nice (p : PyData) (b n : Nat) : Prop where
  lay : p.canLay0 = true
  sh : p.showable = true
  len : p.shown.length ≤ b
  dep : p.depth ≤ n
theorem Nice.up {p : PyData} {b n b' n' : Nat} (h : Nice p b n) (hb : b ≤ b') (hn : n ≤ n') : Nice p b' n' := ⟨h.lay, h.sh, Nat.le_trans h.len hb, Nat.le_trans h.dep hn⟩
theorem Nice.str {z : Str} (h : lat z) : Nice (.str z) (4 * z.length + 2) 0 := ⟨by
  show PyData.strOk z = true
  unfold PyData.strOk
  rw [← Array.all_toList]
  exact List.all_eq_true.mpr fun c hc => decide_eq_true (by have := h c hc; omega), rfl, shownS_len h, Nat.le_refl _⟩
theorem small_show : ∀ i ∈ List.range 400, (PyData.int (i : Nat)).shown.length ≤ 3 ∧ (PyData.int (i : Nat)).showable = true := by decide +kernel
theorem Nice.int {i : Int} (h0 : 0 ≤ i) (h1 : i < 400) : Nice (.int i) 3 0 := by
  obtain ⟨n, rfl⟩ : ∃ n : Nat, i = n := ⟨i.toNat, by omega⟩
  have := small_show n (List.mem_range.mpr (by omega))
  exact ⟨rfl, this.2, this.1, Nat.le_refl _⟩
theorem Nice.all {b n : Nat} : ∀ {xs : List PyData}, (∀ x ∈ xs, Nice x b n) → PyData.canLayAll0 xs = true ∧ PyData.showableAll xs = true ∧ PyData.depthAll xs ≤ n
  | [], _ => ⟨rfl, rfl, Nat.zero_le _⟩
  | x :: xs, h => by
    obtain ⟨a, c, d⟩ := Nice.all fun y hy => h y (List.mem_cons_of_mem _ hy)
    have k := h x (List.mem_cons_self ..)
    refine ⟨by rw [PyData.canLayAll0, k.lay, a]; rfl, by rw [PyData.showableAll, k.sh, c]; rfl, ?_⟩
    rw [PyData.depthAll]
    exact Nat.max_le.mpr ⟨k.dep, d⟩
theorem Nice.list {b n : Nat} {xs : List PyData} (h : ∀ x ∈ xs, Nice x b n) : Nice (.list xs) (2 + xs.length * (b + 2)) (n + 1) := by
  obtain ⟨a, c, d⟩ := Nice.all h
  refine ⟨by rw [PyData.canLay0]; exact a, by rw [PyData.showable]; exact c, ?_, by rw [PyData.depth]; omega⟩
  have := shown_list (f := id) (b := b) xs fun x hx => (h x hx).len
  rwa [List.map_id] at this
theorem Nice.tuple {b n : Nat} {xs : List PyData} (h : ∀ x ∈ xs, Nice x b n) : Nice (.tuple xs) (3 + xs.length * (b + 2)) (n + 1) := by
  obtain ⟨a, c, d⟩ := Nice.all h
  refine ⟨by rw [PyData.canLay0]; exact a, by rw [PyData.showable]; exact c, ?_, by rw [PyData.depth]; omega⟩
  have := shown_tuple (f := id) (b := b) xs fun x hx => (h x hx).len
  rwa [List.map_id] at this
theorem Nice.shaped {p : PyData} {b n : Nat} (h : Nice p b n) (hn : n ≤ 60) : SeqAt.shaped p = true := by
  unfold SeqAt.shaped
  rw [h.lay, decide_eq_true (by have := h.dep; omega)]
  rfl
end TV

set_option Elab.async false
set_option linter.all false
set_option maxRecDepth 100000
set_option maxHeartbeats 1000000
/-! d.get(k, x) over trees; sum of whole numbers. -/
namespace TV
open PySem PySem.Spec PyProof.Rows L2
section
variable {X : Cx} {G : XK} {o e f : Expr} {wo we wf : DE} {apos cpos : Pos}
def wGet2 (wo we wf : DE) : DE := fun ρ M x k => wo ρ M x fun d M1 => (∃ es0, view M1 d = .dct es0) ∧ we ρ M1 x fun y M2 => wf ρ M2 x fun c M3 => ∃ es key, view M3 d = .dct es ∧ keyD y = some key ∧ k ((valD es key).getD c) M3
theorem xe_get2 (hu : X.A.units + 1 < cLine) (ho : XE X G o wo) (he : XE X G e we) (hf : XE X G f wf) (m : L2.M2 X o "get" apos e f cpos) : XE X G (.Call (.Attribute o "get" apos) [e, f] [] cpos) (wGet2 wo we wf) :=
  PE.imp (pe_dget2 hu ho he hf m) fun σ H Q ⟨ρ, F, M, x, k, a, q, kt⟩ => ⟨ρ, F, M, x, _, a, q, fun v d F1 M1 H1 g1 o1 i1 ⟨⟨es0, ev0⟩, q1⟩ => by
    obtain ⟨p, kvs0, ep, hp0, _⟩ := asDct o1 i1 ev0
    refine ⟨p, ep, .inl ⟨kvs0, .inl hp0⟩, ρ, F1, M1, x, _, a.step g1 o1, q1, fun u y F2 M2 H2 g2 o2 i2 q2 => ⟨ρ, F2, M2, x, _, a.step (g1.trans g2) o2, q2, fun z c F3 M3 H3 g3 o3 i3 ⟨es, key, ev, ek, q3⟩ => ?_⟩⟩
    have gg := g2.trans g3
    obtain ⟨p', kvs, ep', hp, r⟩ := asDct o3 (i1.mono gg.ex) ev
    have e1 : p' = p := by
      rw [ep] at ep'
      exact (V.ref.inj ep').symm
    subst e1
    obtain rfl := key_v (i2.mono g3.ex) ek
    obtain ⟨h1, h2⟩ := val_v (k := key) r
    refine ⟨valV kvs key, .k hp, ?_⟩
    cases ed : valD es key with
    | some d' =>
      obtain ⟨w, ew, iw⟩ := h1 d' ed
      rw [ew]
      rw [ed] at q3
      exact kt _ _ F3 M3 H3 ((g1.trans g2).trans g3) o3 iw q3
    | none =>
      rw [ed] at q3 h2
      cases ew : valV kvs key with
      | some w => rw [ew] at h2; cases h2
      | none => exact kt _ _ F3 M3 H3 ((g1.trans g2).trans g3) o3 i3 q3⟩
variable {kx v : Expr} {pos : Pos} {wk wv : DE}
/-- {k: v}, k worked out -/
def wDict1 (wk wv : DE) : DE := fun ρ M x kk => wk ρ M x fun a M1 => wv ρ M1 x fun b M2 => ∃ key, keyD a = some key ∧ kk (.dct [(key, b)]) M2
theorem xe_dict1F (hk : XE X G kx wk) (hv : XE X G v wv) : XE X G (.Dict [some kx] [v] pos) (wDict1 wk wv) :=
  PE.imp (pe_disp (pps_cons hk hv pps_nil) rfl rfl (by simp) (by simp)) fun σ H Q ⟨ρ, F, M, x, k, a, q, kt⟩ p hp => by
    have a1 : At X.K G σ ρ F M (upd H p (.dK [])) x := ⟨a.env, a.heap.newU hp, a.xok.step (Gr.newU hp)⟩
    refine ⟨ρ, F, M, x, _, a1, q, fun u c F0 M0 H0 g0 o0 i0 q0 => ⟨ρ, F0, M0, x, _, a1.step g0 o0, q0, fun z b F1 M1 H1 g1' o1 i1 ⟨key, ek, q1⟩ => ?_⟩⟩
    have g1 := g0.trans g1'
    obtain rfl := key_v i0 ek
    have e1 : H1 p = some (.dK []) := g1.fr p _ upd_same (a.heap.noF hp) (a.heap.noM hp)
    have f1 : F1 p = none := g1.keepF upd_same (a.heap.noF hp) (a.heap.noM hp)
    have m1 : M1 p = none := g1.keepM upd_same (a.heap.noM hp)
    have ns := a.heap.noS hp
    have ie : IsEs X.K F1 [(key, z)] [(key, b)] := .cons i1 .nil
    refine ⟨e1, [(key, z)], rfl, by simp, kt _ _ (upd F1 p (.dK (mergeK [] [(key, z)]))) M1 _ ?_ ((o1.setU f1 m1 ns).take upd_same f1 m1 ns) (.dct upd_same ((merge_v ie .nil).mono (Same.upd f1))) q1⟩
    exact (((Gr.newU hp).trans g1).setU hp).adopt hp f1
end
end TV

set_option Elab.async false
set_option linter.all false
set_option maxRecDepth 100000
set_option maxHeartbeats 1000000
/-! sum of whole numbers; dict(zip(texts, things)). -/
namespace TV
open PySem PySem.Spec PyProof.Rows L2
section
variable {X : Cx} {G : XK}
theorem ints_v' {K : PySem.W.Frag} {F : Hp} : ∀ {xs : List V} {bs : List Int}, IsDs K F xs (bs.map D.int) → xs = bs.map V.int
  | [], [], _ => rfl
  | _ :: _, _ :: _, .cons .int r => by rw [List.map_cons, ints_v' r]
def sumIC : OC := fun M ds q => ∃ (d : D) (ns : List Int), ds = [d] ∧ view M d = .lst (ns.map D.int) ∧ q (.int ns.sum)
theorem l_sumIC : LiftsC X.K sumIC (rSum X.K) := fun F M H vs ds q Q o i ⟨d, ns, ed, ev, h⟩ kt => by
  subst ed
  obtain ⟨v, rfl, i1⟩ := isDs1 i
  obtain ⟨a, xs, rfl, ha, ix⟩ := asLst o i1 ev
  obtain rfl := ints_v' ix
  exact ⟨a, ns, rfl, .of ha, kt _ _ F H .refl o .int h⟩
/-! dict(zip(..)) -/
def tDictZip (K : PySem.W.Frag) (ta : TA) : TE := fun σ H Q => ta σ H fun vs H1 => ∃ (a b : Addr) (ks : List Str) (ys : List V), vs = [.ref a, .ref b] ∧ SqL K H1 a (ks.map V.str) ∧ SqL K H1 b ys ∧
  ∀ p, H1 p = none → Q (.ref p) (upd H1 p (.dK (mergeK [] ((ks.zip ys).map fun z => ((.inr z.1 : Key), z.2)))))
theorem kv_zip : ∀ {ks : List Str} {ys : List V} {us : List Value}, Vals ys us → KV ((ks.zip ys).map fun z => ((.inr z.1 : Key), z.2)) ((ks.zip us).map fun z => ((.inr z.1 : Key), z.2))
  | [], _, _, _ => .nil
  | _ :: _, [], _, r => by cases r; exact .nil
  | k :: ks, y :: ys, _, .cons h r => .cons ⟨rfl, h⟩ (kv_zip r)
theorem pe_dictZip {e e2 : Expr} {ta : TA} {p p2 q pos : Pos} (hc : X.calm = true) (hg : Gl X "dict") (hm : X.mg "dict" = none) (hg2 : Gl X "zip") (hm2 : X.mg "zip" = none) (ha : PA X [e, e2] ta)
    (hs : starEach [e, e2] X.env = (false, eval e X.env) :: starEach [e2] X.env := by rfl) (hpl : (backTo q (starEach [e2] X.env)).any (·.1) = false := by rfl)
    (one : starEach [Expr.Call (.Name "zip" p2) [e, e2] [] q] X.env = (false, eval (Expr.Call (.Name "zip" p2) [e, e2] [] q) X.env) :: starEach [] X.env := by rfl) :
    PE X (.Call (.Name "dict" p) [.Call (.Name "zip" p2) [e, e2] [] q] [] pos) (tDictZip X.K ta) := by
  refine ⟨fun pins s σ H Q I h => ?_⟩
  refine Call_ (ld_blt I hg hm PyProof.Rows.boot_dict ?_)
  refine PyProof.Rows.callWith_type1 (PyProof.Rows.args_cons ?_ one) one rfl
  refine Call_ (ld_blt I hg2 hm2 PyProof.Rows.boot_zip (PyProof.Rows.callWith_type1 (thn (ha.run q pins s σ H _ I h) fun us s1 ⟨vs, H1, I1, r1, q1⟩ => ?_) hs hpl))
  obtain ⟨a, b, ks, ys, ex, hqx, hqy, q1⟩ := q1
  subst ex
  cases r1 with
  | cons r rr =>
    cases rr with
    | cons r' rr =>
      cases rr
      cases r
      cases r'
      obtain ⟨its, rv, p1, z1⟩ := I1.list hqx
      obtain ⟨its2, rv2, p2, z2⟩ := I1.list hqy
      have la : a < s1.heap.objs.size := p1.lt
      have lb : b < s1.heap.objs.size := p2.lt
      refine call_zip_2 p1.isList p2.isList fun h' hz hTI hTO h1 h2 hsz hk => ?_
      refine PyProof.Rows.args_nil ?_
      have l1 : its.length = ks.length := by rw [← rv.length, List.length_map]
      refine PySem.call_dict_pairs (knd := mixKind X.prog X.w) (kvs := (ks.zip its2).map fun z => ((.inr z.1 : Key), z.2)) (PairArg.zip _ _ _ _ _ a b (PySem.W.ktu_apart s1.heap.objs.size a b la lb) its.toArray its2.toArray) (I1.ok.hd hc)
        ⟨hz, hTI, ⟨_, _, hTO⟩, h1, h2, p1.isList.at fun o e => hk _ o e, p2.isList.at fun o e => hk _ o e⟩ ⟨?_, fun i key v hr => ?_⟩ ?_ fun h'' tk hd hk2 => ?_
      · rw [List.length_map, List.length_zip, List.size_toArray, List.size_toArray, l1]
      · obtain ⟨ek, ev⟩ := hr
        rw [List.getElem?_toArray] at ek ev
        have lt : i < ks.length := by
          have := (List.getElem?_eq_some_iff.mp ek).1
          omega
        have e1 : ks[i]? = some ks[i] := List.getElem?_eq_getElem lt
        obtain ⟨y, hy, ry⟩ := rv.get (i := i) (x := .str ks[i]) (by rw [List.getElem?_map, e1]; rfl)
        rw [ek] at hy
        cases hy
        refine ⟨.inr ks[i], ?_, kV_is (P := X.prog) (w := X.w) (k := .inr ks[i]) ry⟩
        rw [List.getElem?_map, (List.getElem?_zip_eq_some (z := (ks[i], v))).mpr ⟨e1, ev⟩]
        rfl
      · rw [List.size_toArray, List.size_toArray, l1]
        rw [List.length_map] at z1
        exact Nat.le_trans (Nat.min_le_left _ _) z1
      · have big : s1.heap.objs.size ≤ h'.objs.size := by rw [hsz]; omega
        have hmm : (h'.objs.size == sysModules) = false := beq_eq_false_iff_ne.mpr (Nat.ne_of_gt (Nat.lt_of_lt_of_le I1.big big))
        have hlen : (mergeK [] ((ks.zip ys).map fun z => ((.inr z.1 : Key), z.2))).length ≤ sizeLine := by
          refine Nat.le_trans (length_mergeK _ []) ?_
          rw [List.length_nil, Nat.zero_add, List.length_map, List.length_zip]
          rw [List.length_map] at z1
          exact Nat.le_trans (Nat.min_le_left _ _) z1
        have keep : ∀ c o, s1.heap.get? c = some o → h''.get? c = some o := fun c o e => hk2 c o (fun hm => by
          have lt := Heap.lt_size e
          have key : ∀ n : Nat, c = s1.heap.objs.size + n → False := fun n e => by rw [e] at lt; exact absurd lt (Nat.not_lt.mpr (Nat.le_add_right _ _))
          simp only [List.mem_cons, List.not_mem_nil, or_false] at hm
          rcases hm with e | e | e | e
          · exact key 4 e
          · exact key 3 e
          · exact key 0 e
          · exact key 1 e) (hk c o e)
        exact ⟨.ref h'.objs.size, _, I1.laid (a := h'.objs.size) (t' := tk) keep big (show ObjOk X.prog X.w _ _ _ (.dK (mergeK [] ((ks.zip ys).map fun z => ((.inr z.1 : Key), z.2)))) from ⟨hlen, hmm, _, KV.merge (kv_zip rv2) .nil, hd⟩), rfl, q1 _ (I1.hok.fresh big)⟩
def wDictZip (w : DA) : DE := fun ρ M x k => w ρ M x fun ds M1 => ∃ (d1 d2 : D) (ks : List Str) (ys : List D), ds = [d1, d2] ∧ view M1 d1 = .lst (ks.map D.str) ∧ view M1 d2 = .lst ys ∧ k (.dct (dictOf ((ks.zip ys).map fun z => ((.inr z.1 : Key), z.2)))) M1
theorem es_zip {K : PySem.W.Frag} {F : Hp} : ∀ {ks : List Str} {ys : List V} {us : List D}, IsDs K F ys us → IsEs K F ((ks.zip ys).map fun z => ((.inr z.1 : Key), z.2)) ((ks.zip us).map fun z => ((.inr z.1 : Key), z.2))
  | [], _, _, _ => .nil
  | _ :: _, [], _, r => by cases r; exact .nil
  | k :: ks, y :: ys, _, .cons h r => .cons h (es_zip r)
theorem xe_dictZip {e e2 : Expr} {w : DA} {p p2 q pos : Pos} (hg : Gl X "dict") (hm : X.mg "dict" = none) (hg2 : Gl X "zip") (hm2 : X.mg "zip" = none) (ha : XA X G [e, e2] w) (hc : X.calm = true := by rfl)
    (hs : starEach [e, e2] X.env = (false, eval e X.env) :: starEach [e2] X.env := by rfl) (hpl : (backTo q (starEach [e2] X.env)).any (·.1) = false := by rfl)
    (one : starEach [Expr.Call (.Name "zip" p2) [e, e2] [] q] X.env = (false, eval (Expr.Call (.Name "zip" p2) [e, e2] [] q) X.env) :: starEach [] X.env := by rfl) :
    XE X G (.Call (.Name "dict" p) [.Call (.Name "zip" p2) [e, e2] [] q] [] pos) (wDictZip w) :=
  PE.imp (pe_dictZip hc hg hm hg2 hm2 ha hs hpl one) fun σ H Q ⟨ρ, F, M, x, k, a, z, kt⟩ => ⟨ρ, F, M, x, _, a, z, fun vs ds F1 M1 H1 g1 o1 i1 q1 => by
    obtain ⟨d1, d2, ks, ys, ed, v1, v2, q1⟩ := q1
    subst ed
    obtain ⟨v, u, rfl, i2, i3⟩ := isDs2 i1
    obtain ⟨a, xs, rfl, ha, ix⟩ := asLst o1 i2 v1
    obtain ⟨b, zs, rfl, hb, iz⟩ := asLst o1 i3 v2
    obtain rfl := strs_v ix
    refine ⟨a, b, ks, zs, rfl, .of ha, .of hb, fun p hn => ?_⟩
    have nf := o1.noF hn
    exact kt _ _ _ M1 _ (g1.trans (.frz nf hn)) (o1.frz hn) (.dct upd_same ((merge_v (es_zip iz) .nil).mono (Same.upd nf))) q1⟩
/-- a dict of unlike texts -/
theorem dict_nd {vs : List (Str × D)} (nd : (vs.map Prod.fst).Nodup) : dictOf (vs.map fun z => ((.inr z.1 : Key), z.2)) = vs.map fun z => ((.inr z.1 : Key), z.2) := by
  have key : ∀ (vs acc : List (Str × D)), ((acc ++ vs).map Prod.fst).Nodup → (vs.map fun z => ((.inr z.1 : Key), z.2)).foldl (fun acc e => putD acc e.1 e.2) (acc.map fun z => ((.inr z.1 : Key), z.2)) = (acc ++ vs).map fun z => ((.inr z.1 : Key), z.2) := by
    intro vs
    induction vs with
    | nil => intro acc _; simp
    | cons v vs ih =>
      intro acc nd
      have e : putD (acc.map fun z => ((.inr z.1 : Key), z.2)) (.inr v.1) v.2 = (acc ++ [v]).map fun z => ((.inr z.1 : Key), z.2) := by
        unfold putD
        rw [if_neg]
        · simp
        · intro h
          obtain ⟨y, hy, ey⟩ := List.any_eq_true.mp h
          obtain ⟨z, hz, rfl⟩ := List.mem_map.mp hy
          have ez : z.1 = v.1 := Sum.inr.inj (of_decide_eq_true ey)
          rw [List.map_append, List.nodup_append] at nd
          exact nd.2.2 z.1 (List.mem_map_of_mem hz) v.1 (by simp) ez
      rw [List.map_cons, List.foldl_cons, e, ih (acc ++ [v]) (by simpa using nd)]
      simp
  have := key vs [] (by simpa using nd)
  simpa [dictOf] using this
end
end TV

set_option Elab.async false
set_option linter.all false
set_option maxRecDepth 100000
set_option maxHeartbeats 1000000
/-! zip of two sequences, each a list or a tuple. -/
namespace ZB
open PySem
open PySem.Sem (wp)
/-- at l: a tuple (true), a list (false) -/
def SqB : Bool → Heap → Addr → Array Value → Prop
  | true, h, l, xs => h.IsTuple l xs
  | false, h, l, xs => h.IsList l xs
/-- its iterator -/
def ItB : Bool → Heap → Addr → Addr → Nat → Prop
  | true, h, it, l, i => h.IsTupleIter it l i
  | false, h, it, l, i => h.IsListIter it l i
theorem SqB.ext {b : Bool} {h k : Heap} {l c : Addr} {xs : Array Value} (x : SqB b h l xs) (s : Heap.ExtBut c h k) (ne : l ≠ c) : SqB b k l xs := by
  cases b <;> exact x.extBut s ne
theorem SqB.push {b : Bool} {h : Heap} {l : Addr} {xs : Array Value} (x : SqB b h l xs) (o : Obj) : SqB b (h.push o) l xs := by
  cases b
  · exact Heap.IsList.push x o
  · exact Heap.IsTuple.push x o
theorem SqB.lt {b : Bool} {h : Heap} {l : Addr} {xs : Array Value} (x : SqB b h l xs) : l < h.objs.size := by
  cases b <;> (obtain ⟨o, e, _⟩ := x; exact Heap.lt_size e)
theorem ItB.ext {b : Bool} {h k : Heap} {it l c : Addr} {i : Nat} (x : ItB b h it l i) (s : Heap.ExtBut c h k) (ne : it ≠ c) : ItB b k it l i := by
  cases b <;> exact x.extBut s ne
theorem ItB.at_ {b : Bool} {h k : Heap} {it l : Addr} {i : Nat} (x : ItB b h it l i) (s : ∀ o, h.get? it = some o → k.get? it = some o) : ItB b k it l i := by
  cases b <;> (obtain ⟨o, e, r⟩ := x; exact ⟨o, s o e, r⟩)
theorem ItB.there {b : Bool} {h : Heap} {it l : Addr} {i : Nat} (x : ItB b h it l i) : ∃ o, h.get? it = some o ∧ ∀ v, o.data ≠ .cell v := by
  cases b <;> (obtain ⟨o, e, _, d⟩ := x; exact ⟨o, e, fun v q => by rw [d] at q; cases q⟩)
section
variable {prog : Program} {w : World} {A : Around} {E : Value → Shared → Prop} {s : Shared}
theorem ItB.item {b : Bool} {it l : Addr} {i : Nat} {xs : Array Value} {x : Value} {Q : Value → Shared → Prop} (hi : ItB b s.heap it l i) (hl : SqB b s.heap l xs) (hx : xs[i]? = some x)
    (q : ∀ k, ItB b k it l (i + 1) → Heap.SameBut it s.heap k → Q x { s with heap := k }) : wpAny (model prog w) A (Builtin.SmallTypes.nextOf (.ref it)) Q E s := by
  cases b
  · exact wpAny_nextOf_list_item hi hl hx q
  · exact RZ.nextOf_tuple_item hi hl hx q
theorem ItB.stop {b : Bool} {it l : Addr} {i : Nat} {xs : Array Value} {Q : Value → Shared → Prop} (hh : A.handled = none) (hi : ItB b s.heap it l i) (hl : SqB b s.heap l xs) (hx : xs[i]? = none)
    (q : ∀ k e, Heap.ExtBut it s.heap k → (∃ o, k.get? e = some o ∧ o.cls = .type "StopIteration") → E (.ref e) { s with heap := k }) : wpAny (model prog w) A (Builtin.SmallTypes.nextOf (.ref it)) Q E s := by
  cases b
  · exact wpAny_nextOf_list_end hh hi hl hx q
  · exact RZ.nextOf_tuple_end hh hi hl hx q
theorem zb_item {b1 b2 : Bool} {z TI TO i1 i2 l1 l2 : Addr} {m n : Nat} {xs ys : Array Value} {x y a c : Value} {Q : Value → Shared → Prop} (D : ZipApart z TI TO i1 i2 l1 l2)
    (iz : IsZip s.heap z TI TO .none) (pI : IsPair s.heap TI (.ref i1) (.ref i2)) (pO : IsPair s.heap TO a c)
    (j1 : ItB b1 s.heap i1 l1 m) (j2 : ItB b2 s.heap i2 l2 n) (q1 : SqB b1 s.heap l1 xs) (q2 : SqB b2 s.heap l2 ys) (ex : xs[m]? = some x) (ey : ys[n]? = some y)
    (fin : ∀ k, IsZip k z TI TO (rawInt s.heap.objs.size) → IsPair k TO x y → ItB b1 k i1 l1 (m + 1) → ItB b2 k i2 l2 (n + 1) → IsPair k s.heap.objs.size x y → k.objs.size = s.heap.objs.size + 1 →
      (∀ d o, d ≠ z → d ≠ TO → d ≠ i1 → d ≠ i2 → s.heap.get? d = some o → k.get? d = some o) → Q (.ref s.heap.objs.size) { s with heap := k }) :
    wpAny (model prog w) A (Builtin.«zip.__next__» ⟨[.ref z], []⟩) (fun r s' => ∃ v, r = .done (.ret v) ∧ Q v s') E s := by
  show wpAny _ _ (field (.ref z) 2 >>= _) _ _ _; refine wpAny_bind (wpAny_field iz rfl (x := .bool false) rfl ?_)
  show wpAny _ _ (field (.ref z) 3 >>= _) _ _ _; refine wpAny_bind (wpAny_field iz rfl (x := .ref TI) rfl (wpAny_bind (wpAny_seqItems pI rfl ?_)))
  show wpAny _ _ (Builtin.SmallTypes.ownedTupleIsFree (.ref z) >>= _) _ _ _; refine wpAny_bind ?_
  unfold Builtin.SmallTypes.ownedTupleIsFree; refine wpAny_bind (wpAny_field iz rfl (x := .none) rfl (wpAny_pure ?_))
  simp only [if_true]; refine wpAny_bind (wpAny_rule (wpAny_bind (wpAny_field iz rfl (x := .ref TO) rfl (wpAny_bind (wpAny_setField_rec iz (by simp) fun k1 z1 e1 => ?_)))))
  have z1 : IsZip k1 z TI TO .ellipsis := z1
  refine wpAny_bind ?_; simp only [List.zipIdx_cons, List.zipIdx_nil, List.forIn_cons, List.forIn_nil]
  refine wpAny_bind (wpAny_bind (wpAny_onRaise ?_)); show wpAny _ _ (Builtin.SmallTypes.nextOf (.ref i1) >>= _) _ _ _
  refine wpAny_bind ((j1.ext e1.extBut D.i1z).item (q1.ext e1.extBut D.l1z) ex fun k2 n1 e2 => wpAny_pure ?_)
  have o2 : IsPair k2 TO a c := e2.extBut _ _ D.TOi1 (e1.extBut _ _ D.TOz pO)
  refine wpAny_bind (wpAny_seqItems o2 rfl (wpAny_bind (wpAny_updateSeq_pair o2 fun k3 o3 e3 => wpAny_bind (wpAny_letGo (wpAny_pure ?_)))))
  have o3 : IsPair k3 TO x c := o3
  refine wpAny_bind (wpAny_bind (wpAny_onRaise ?_)); show wpAny _ _ (Builtin.SmallTypes.nextOf (.ref i2) >>= _) _ _ _
  have j2' := ((j2.ext e1.extBut D.i2z).ext e2.extBut D.i12.symm).ext e3.extBut D.TOi2.symm
  have q2' := ((q2.ext e1.extBut D.l2z).ext e2.extBut D.l2i1).ext e3.extBut D.l2TO
  refine wpAny_bind (j2'.item q2' ey fun k4 n2 e4 => wpAny_pure ?_)
  have o4 : IsPair k4 TO x c := e4.extBut _ _ D.TOi2 o3
  refine wpAny_bind (wpAny_seqItems o4 rfl (wpAny_bind (wpAny_updateSeq_pair o4 fun k5 o5 e5 => wpAny_bind (wpAny_letGo (wpAny_pure (wpAny_pure ?_))))))
  have o5 : IsPair k5 TO x y := o5
  refine wpAny_bind (wpAny_seqItems o5 rfl (wpAny_bind (wpAny_newTuple ?_)))
  have same : k5.objs.size = s.heap.objs.size := e5.1.trans (e4.1.trans (e3.1.trans (e2.1.trans e1.1)))
  have z5 : IsZip k5 z TI TO .ellipsis := e5.extBut _ _ D.TOz.symm (e4.extBut _ _ D.i2z.symm (e3.extBut _ _ D.TOz.symm (e2.extBut _ _ D.i1z.symm z1)))
  have old : ∀ d o, d ≠ z → d ≠ TO → d ≠ i1 → d ≠ i2 → s.heap.get? d = some o → k5.get? d = some o := fun d o d1 d2 d3 d4 g =>
    e5.extBut _ _ d2 (e4.extBut _ _ d4 (e3.extBut _ _ d2 (e2.extBut _ _ d3 (e1.extBut _ _ d1 g))))
  have m1 : ItB b1 k5 i1 l1 (m + 1) := ((n1.ext e3.extBut D.TOi1.symm).ext e4.extBut D.i12).ext e5.extBut D.TOi1.symm
  have m2 : ItB b2 k5 i2 l2 (n + 1) := n2.ext e5.extBut D.TOi2.symm
  have zl : z < k5.objs.size := Heap.lt_size z5
  show wpAny _ _ (Builtin.SmallTypes.ownedTupleHandOut (.ref z) (.ref k5.objs.size) >>= _) _ _ _; refine wpAny_bind ?_
  unfold Builtin.SmallTypes.ownedTupleHandOut
  have z6 : IsZip (k5.push { cls := .type "tuple", data := .seq #[x, y] }) z TI TO .ellipsis := Heap.get?_push_of_some _ z5
  refine wpAny_bind (wpAny_setField_rec z6 (by simp) fun k7 z7 e7 => ?_)
  have z7 : IsZip k7 z TI TO (rawInt k5.objs.size) := z7
  refine wpAny_setField_rec z7 (by simp) fun k8 z8 e8 => ?_
  have z8 : IsZip k8 z TI TO (rawInt k5.objs.size) := z8
  have stay : ∀ d o, d ≠ z → k5.get? d = some o → k8.get? d = some o := fun d o d1 g => e8.extBut _ _ d1 (e7.extBut _ _ d1 (Heap.get?_push_of_some _ g))
  have new : IsPair k8 k5.objs.size x y := e8.extBut _ _ (Nat.ne_of_gt zl) (e7.extBut _ _ (Nat.ne_of_gt zl) (Heap.get?_push_size _ rfl))
  have one : k8.objs.size = k5.objs.size + 1 := by rw [e8.1, e7.1, Heap.size_push]
  rw [same] at z8 new one
  refine wpAny_pure ⟨_, rfl, ?_⟩
  rw [same]
  exact fin k8 z8 (stay _ _ D.TOz o5) (m1.at_ fun o g => stay _ o D.i1z g) (m2.at_ fun o g => stay _ o D.i2z g) new one fun d o d1 d2 d3 d4 g => stay d o d1 (old d o d1 d2 d3 d4 g)
theorem zb_stop {b1 b2 : Bool} {z TI TO i1 i2 l1 l2 : Addr} {m n : Nat} {xs ys : Array Value} {a c : Value} {Q : Fin → Shared → Prop} (hh : A.handled = none) (D : ZipApart z TI TO i1 i2 l1 l2)
    (iz : IsZip s.heap z TI TO .none) (pI : IsPair s.heap TI (.ref i1) (.ref i2)) (pO : IsPair s.heap TO a c)
    (j1 : ItB b1 s.heap i1 l1 m) (j2 : ItB b2 s.heap i2 l2 n) (q1 : SqB b1 s.heap l1 xs) (q2 : SqB b2 s.heap l2 ys) (no : xs[m]? = none ∨ ys[n]? = none)
    (fin : ∀ k e, (∀ d o, d ≠ z → d ≠ TO → d ≠ i1 → d ≠ i2 → s.heap.get? d = some o → k.get? d = some o) → (∃ o, k.get? e = some o ∧ o.cls = .type "StopIteration") → E (.ref e) { s with heap := k }) :
    wpAny (model prog w) A (Builtin.«zip.__next__» ⟨[.ref z], []⟩) Q E s := by
  show wpAny _ _ (field (.ref z) 2 >>= _) _ _ _; refine wpAny_bind (wpAny_field iz rfl (x := .bool false) rfl ?_)
  show wpAny _ _ (field (.ref z) 3 >>= _) _ _ _; refine wpAny_bind (wpAny_field iz rfl (x := .ref TI) rfl (wpAny_bind (wpAny_seqItems pI rfl ?_)))
  show wpAny _ _ (Builtin.SmallTypes.ownedTupleIsFree (.ref z) >>= _) _ _ _; refine wpAny_bind ?_
  unfold Builtin.SmallTypes.ownedTupleIsFree; refine wpAny_bind (wpAny_field iz rfl (x := .none) rfl (wpAny_pure ?_))
  simp only [if_true]; refine wpAny_bind (wpAny_rule (wpAny_bind (wpAny_field iz rfl (x := .ref TO) rfl (wpAny_bind (wpAny_setField_rec iz (by simp) fun k1 z1 e1 => ?_)))))
  have z1 : IsZip k1 z TI TO .ellipsis := z1
  refine wpAny_bind ?_; simp only [List.zipIdx_cons, List.zipIdx_nil, List.forIn_cons, List.forIn_nil]
  refine wpAny_bind (wpAny_bind (wpAny_onRaise ?_)); show wpAny _ _ (Builtin.SmallTypes.nextOf (.ref i1) >>= _) _ _ _
  have p1 := j1.ext e1.extBut D.i1z
  have r1 := q1.ext e1.extBut D.l1z
  cases ex : xs[m]? with
  | none =>
    refine wpAny_bind (p1.stop hh r1 ex fun k2 e e2 st => ?_)
    obtain ⟨o, eo, co⟩ := st
    have z2 : IsZip k2 z TI TO .ellipsis := e2 _ _ D.i1z.symm z1
    have ne : e ≠ z := fun h => by subst h; rw [z2] at eo; cases eo; simp at co
    exact wpAny_setField_rec z2 (by simp) fun k3 _ e3 => fin k3 e (fun d o d1 _ d3 _ g => e3.extBut _ _ d1 (e2 _ _ d3 (e1.extBut _ _ d1 g))) ⟨o, e3.extBut _ _ ne eo, co⟩
  | some x =>
    have ey : ys[n]? = none := no.resolve_left fun h => by rw [ex] at h; cases h
    refine wpAny_bind (p1.item r1 ex fun k2 n1 e2 => wpAny_pure ?_)
    have o2 : IsPair k2 TO a c := e2.extBut _ _ D.TOi1 (e1.extBut _ _ D.TOz pO)
    refine wpAny_bind (wpAny_seqItems o2 rfl (wpAny_bind (wpAny_updateSeq_pair o2 fun k3 o3 e3 => wpAny_bind (wpAny_letGo (wpAny_pure ?_)))))
    refine wpAny_bind (wpAny_bind (wpAny_onRaise ?_)); show wpAny _ _ (Builtin.SmallTypes.nextOf (.ref i2) >>= _) _ _ _
    have j2' := ((j2.ext e1.extBut D.i2z).ext e2.extBut D.i12.symm).ext e3.extBut D.TOi2.symm
    have q2' := ((q2.ext e1.extBut D.l2z).ext e2.extBut D.l2i1).ext e3.extBut D.l2TO
    refine wpAny_bind (j2'.stop hh q2' ey fun k4 e e4 st => ?_)
    obtain ⟨o, eo, co⟩ := st
    have z4 : IsZip k4 z TI TO .ellipsis := e4 _ _ D.i2z.symm (e3.extBut _ _ D.TOz.symm (e2.extBut _ _ D.i1z.symm z1))
    have ne : e ≠ z := fun h => by subst h; rw [z4] at eo; cases eo; simp at co
    exact wpAny_setField_rec z4 (by simp) fun k5 _ e5 => fin k5 e (fun d o d1 d2 d3 d4 g => e5.extBut _ _ d1 (e4 _ _ d4 (e3.extBut _ _ d2 (e2.extBut _ _ d3 (e1.extBut _ _ d1 g))))) ⟨o, e5.extBut _ _ ne eo, co⟩
/-! ### zip(a, b) is made -/
def itO : Bool → Addr → Obj
  | true, l => { cls := .type "tuple_iterator", data := .fields #[.ref l, .int 0 0] }
  | false, l => { cls := .type "list_iterator", data := .fields #[.ref l, .int 0 0] }
theorem iterB {b : Bool} {l : Addr} {xs : Array Value} {Q : Value → Shared → Prop} (h : SqB b s.heap l xs) (q : Q (.ref s.heap.objs.size) { s with heap := s.heap.push (itO b l) }) : wpAny (model prog w) A (pyIter (.ref l)) Q E s := by
  cases b
  · exact wpAny_pyIter_list h q
  · exact wpAny_pyIter_tuple h q
def zh2 (b1 b2 : Bool) (h : Heap) (l1 l2 : Addr) : Heap := (h.push (itO b1 l1)).push (itO b2 l2)
def zh4 (b1 b2 : Bool) (h : Heap) (l1 l2 : Addr) : Heap := ((zh2 b1 b2 h l1 l2).push { cls := .type "tuple", data := .seq #[.ref h.objs.size, .ref (h.push (itO b1 l1)).objs.size] }).push { cls := .type "tuple", data := .seq #[.none, .none] }
def zh5 (b1 b2 : Bool) (h : Heap) (l1 l2 : Addr) : Heap := (zh4 b1 b2 h l1 l2).push { cls := .type "zip", data := .fields #[.none, .bool false, .bool false, .ref (zh2 b1 b2 h l1 l2).objs.size, .ref ((zh2 b1 b2 h l1 l2).push { cls := .type "tuple", data := .seq #[.ref h.objs.size, .ref (h.push (itO b1 l1)).objs.size] }).objs.size] }
theorem zb_new (b1 b2 : Bool) (l1 l2 : Addr) (xs ys : Array Value) :
    Meets (Builtin.«zip.__new__» ⟨[.type "zip", .ref l1, .ref l2], []⟩) (fun _ R s => SqB b1 s.heap l1 xs ∧ SqB b2 s.heap l2 ys ∧ R (.ok (.ret (.ref (zh4 b1 b2 s.heap l1 l2).objs.size))) { s with heap := zh5 b1 b2 s.heap l1 l2 }) :=
  .of_wp fun prog w A R s h => by
    obtain ⟨hp, g, d, tk, os⟩ := s
    obtain ⟨h1, h2, h⟩ := h
    have sb := sub_zip
    have c1 : SqB b1 (Shared.heap ⟨hp, g, d, tk, os⟩) l1 xs := h1
    have c2 : SqB b2 (Shared.heap ⟨hp.push (itO b1 l1), g, d, tk, os⟩) l2 ys := h2.push _
    wp_walk using iterB c1, iterB c2
    exact ⟨_, rfl, h⟩
theorem itO_is (b : Bool) {h : Heap} {it l : Addr} (e : h.get? it = some (itO b l)) : ItB b h it l 0 := by
  cases b <;> exact ⟨_, e, rfl, rfl⟩
theorem zb_call {b1 b2 : Bool} {l1 l2 : Addr} {xs ys : Array Value} {Q : Value → Shared → Prop} (q1 : SqB b1 s.heap l1 xs) (q2 : SqB b2 s.heap l2 ys)
    (fin : ∀ k, IsZip k (s.heap.objs.size + 4) (s.heap.objs.size + 2) (s.heap.objs.size + 3) .none → IsPair k (s.heap.objs.size + 2) (.ref s.heap.objs.size) (.ref (s.heap.objs.size + 1)) → IsPair k (s.heap.objs.size + 3) .none .none →
      ItB b1 k s.heap.objs.size l1 0 → ItB b2 k (s.heap.objs.size + 1) l2 0 → (∀ d o, s.heap.get? d = some o → k.get? d = some o) → Q (.ref (s.heap.objs.size + 4)) { s with heap := k }) :
    wpAny (model prog w) A (call (.type "zip") [.ref l1, .ref l2]) Q E s := by
  have s1 : (s.heap.push (itO b1 l1)).objs.size = s.heap.objs.size + 1 := Heap.size_push ..
  have s2 : (zh2 b1 b2 s.heap l1 l2).objs.size = s.heap.objs.size + 2 := by unfold zh2; rw [Heap.size_push, s1]
  have s4 : (zh4 b1 b2 s.heap l1 l2).objs.size = s.heap.objs.size + 4 := by unfold zh4; rw [Heap.size_push, Heap.size_push, s2]
  have up5 : ∀ {d o}, (zh4 b1 b2 s.heap l1 l2).get? d = some o → (zh5 b1 b2 s.heap l1 l2).get? d = some o := fun e => Heap.get?_push_of_some _ e
  have up4 : ∀ {d o}, (zh2 b1 b2 s.heap l1 l2).get? d = some o → (zh5 b1 b2 s.heap l1 l2).get? d = some o := fun e => up5 (Heap.get?_push_of_some _ (Heap.get?_push_of_some _ e))
  have g5 : (zh5 b1 b2 s.heap l1 l2).get? (zh4 b1 b2 s.heap l1 l2).objs.size = some _ := Heap.get?_push_size _ rfl
  have g4 : (zh4 b1 b2 s.heap l1 l2).get? _ = some _ := Heap.get?_push_size _ rfl
  have g3 : (zh4 b1 b2 s.heap l1 l2).get? _ = some _ := Heap.get?_push_of_some _ (Heap.get?_push_size _ rfl)
  have g2 : (zh2 b1 b2 s.heap l1 l2).get? (s.heap.push (itO b1 l1)).objs.size = some (itO b2 l2) := Heap.get?_push_size _ (by cases b2 <;> rfl)
  have g1 : (zh2 b1 b2 s.heap l1 l2).get? s.heap.objs.size = some (itO b1 l1) := Heap.get?_push_of_some _ (Heap.get?_push_size _ (by cases b1 <;> rfl))
  refine callType_new F.called_zip (by decide) (F.typeCall_zip_2 _ _) (F.newCall_zip_2 _ _) (fun o => F.args_object_init_3 o _ _) F.entry_zip_new (zb_new b1 b2 l1 l2 xs ys) ⟨q1, q2, ?_⟩
  show _ ∧ _
  rw [s4] at g5 ⊢
  have g4 := up5 g4
  have g3 := up5 g3
  rw [Heap.size_push, s2] at g4
  rw [s2] at g3
  rw [s1] at g3 g2
  refine ⟨⟨_, g5, rfl⟩, fin _ ?_ g3 g4 (itO_is b1 (up4 g1)) (itO_is b2 (up4 g2)) fun d o e => up4 (Heap.get?_push_of_some _ (Heap.get?_push_of_some _ e))⟩
  show _ = _
  rw [g5, Heap.size_push, s2]
end
end ZB

namespace TV
open PySem PySem.Spec PyProof.Rows L2 ZB
/-! ### at the layer -/
def SqV : Bool → PySem.W.Frag → Hp → Addr → List V → Prop
  | true, K, H, a, xs => SqT K H a xs
  | false, K, H, a, xs => SqL K H a xs
theorem seqB {X : Cx} {pins : List (Addr × Obj)} {σ : L2.St} {H : Hp} {s : Shared} (I : Inv X pins σ H s) {b : Bool} {a : Addr} {xs : List V} (q : SqV b X.K H a xs) : ∃ its : List Value, Vals xs its ∧ SqB b s.heap a its.toArray := by
  cases b
  · obtain ⟨its, r, p, _⟩ := I.list q
    exact ⟨its, r, p.isList⟩
  · obtain ⟨its, r, p, _⟩ := I.tuple q
    exact ⟨its, r, p⟩
theorem seq_inj {X : Cx} {pins : List (Addr × Obj)} {σ : L2.St} {H : Hp} {s : Shared} (I : Inv X pins σ H s) {b : Bool} {a : Addr} {xs ys : List V} (q : SqV b X.K H a xs) (q2 : SqV b X.K H a ys) : xs = ys := by
  cases b
  · exact I.list_inj q q2
  · exact I.tuple_inj q q2
/-- a pair of each two that stand at one place -/
def ItzB (K : PySem.W.Frag) (b1 b2 : Bool) (a b : Addr) : It :=
  ⟨fun i H => ∃ (xs ys : List V) (x y : V), SqV b1 K H a xs ∧ SqV b2 K H b ys ∧ xs[i]? = some x ∧ ys[i]? = some y,
    fun i H v H' => ∃ T x y, v = .ref T ∧ H T = none ∧ H' = upd H T (.tup [x, y]) ∧ (∀ xs, SqV b1 K H a xs → xs[i]? = some x) ∧ ∀ ys, SqV b2 K H b ys → ys[i]? = some y,
    fun i H => ∃ xs ys : List V, SqV b1 K H a xs ∧ SqV b2 K H b ys ∧ (xs.length ≤ i ∨ ys.length ≤ i)⟩
theorem turn_zb {P : Program} {w : World} {K : PySem.W.Frag} {elts : List Expr} {kk : Nat} {tpos : Pos} {b1 b2 : Bool} {a b z TI TO i1 i2 : Addr} (D : ZipApart z TI TO i1 i2 a b) :
    Turn P w K (.Tuple elts kk tpos) (ItzB K b1 b2 a b) [z, TI, TO, i1, i2] z (fun i h => IsZip h z TI TO .none ∧ IsPair h TI (.ref i1) (.ref i2) ∧ (∃ x y, IsPair h TO x y) ∧ ItB b1 h i1 a i ∧ ItB b2 h i2 b i) where
  mem := List.mem_cons_self
  self := fun A i s Q E st h => wpAny_pyIter_zip st.1 h
  obj := fun i h ⟨hz, pI, ⟨x, y, pO⟩, j1, j2⟩ c hc => by
    simp only [List.mem_cons, List.not_mem_nil, or_false] at hc
    rcases hc with q | q | q | q | q <;> rw [q]
    · exact ⟨_, hz, fun v e => nomatch e⟩
    · exact ⟨_, pI, fun v e => nomatch e⟩
    · exact ⟨_, pO, fun v e => nomatch e⟩
    · exact j1.there
    · exact j2.there
  keep := fun i h k ⟨hz, pI, ⟨x, y, pO⟩, j1, j2⟩ st =>
    ⟨st z (by simp) _ hz, st TI (by simp) _ pI, ⟨x, y, st TO (by simp) _ pO⟩, j1.at_ (st i1 (by simp)), j2.at_ (st i2 (by simp))⟩
  item := by
    intro X hP hw hK hc i pins s σ H E I hf ⟨hz, pI, ⟨x0, y0, pO⟩, j1, j2⟩ ⟨xs, ys, x, y, sx, sy, ex, ey⟩
    subst hP hw hK
    obtain ⟨us, rx, px⟩ := seqB I sx
    obtain ⟨vs, ry, py⟩ := seqB I sy
    obtain ⟨u, hu, ru⟩ := rx.get ex
    obtain ⟨v, hv, rv⟩ := ry.get ey
    have zl : z < s.heap.objs.size := Heap.lt_size hz
    have ht : s.TypeIs (.ref z) "zip" := ⟨_, hz, rfl⟩
    unfold pyNext
    refine wpAny_bind (wpAny_attempt (wpAny_callSpecial?_slot (name := Str.ofString "__next__") ht F.slot_zip_next (wpAny_call_entry F.slot_zip_next ht F.entry_zip_next (zb_item D hz pI pO j1 j2 px py (x := u) (y := v) (by simpa using hu) (by simpa using hv) fun k zk ok m1 m2 pT sz old => wpAny_pure ?_) (F.args_zip_next_1 _))))
    refine ⟨_, rfl, wpAny_letOwnedTupleGo_zip (s := { s with heap := k }) zk fun k2 z2 sb => ?_⟩
    have pT2 : k2.get? s.heap.objs.size = some { cls := .type "tuple", data := .seq #[u, v] } := (sb.2 _ (Nat.ne_of_gt zl)).trans pT
    have new : ObjOk X.prog X.w (upd H s.heap.objs.size (.tup [x, y])) k2 s.heap.objs.size (.tup [x, y]) := ⟨by show 2 ≤ sizeLine; decide, [u, v], .cons ru (.cons rv .nil), ⟨_, pT2, rfl, _, rfl⟩⟩
    have out : ∀ {c : Addr}, c ∉ [z, TI, TO, i1, i2] → c ≠ z ∧ c ≠ TO ∧ c ≠ i1 ∧ c ≠ i2 := fun {c} h => by
      simp only [List.mem_cons, List.not_mem_nil, or_false, not_or] at h
      exact ⟨h.1, h.2.2.1, h.2.2.2.1, h.2.2.2.2⟩
    have J : Inv X pins σ (upd H s.heap.objs.size (.tup [x, y])) { s with heap := k2 } :=
      I.turnedNew (t' := s.toks) (ch := [z, TI, TO, i1, i2]) (fun c o h q => (sb.2 c (out h).1).trans (old c o (out h).1 (out h).2.1 (out h).2.2.1 (out h).2.2.2 q)) hf (Nat.le_refl _) new
    refine ⟨.ref s.heap.objs.size, _, J, rfl, ⟨_, x, y, rfl, I.hok.fresh (Nat.le_refl _), rfl, fun l hl => by rw [seq_inj I hl sx]; exact ex, fun l hl => by rw [seq_inj I hl sy]; exact ey⟩, ⟨z2, (sb.2 _ D.TIz).trans (old _ _ D.TIz D.TITO D.TIi1 D.TIi2 pI), ⟨u, v, (sb.2 _ D.TOz).trans ok⟩, m1.at_ fun o q => (sb.2 _ D.i1z).trans q, m2.at_ fun o q => (sb.2 _ D.i2z).trans q⟩, fun c hcm => ?_⟩
    have hlt : c < s.heap.objs.size := by
      simp only [List.mem_cons, List.not_mem_nil, or_false] at hcm
      rcases hcm with q | q | q | q | q <;> rw [q]
      · exact zl
      · exact Heap.lt_size pI
      · exact Heap.lt_size pO
      · obtain ⟨_, e, _⟩ := j1.there; exact Heap.lt_size e
      · obtain ⟨_, e, _⟩ := j2.there; exact Heap.lt_size e
    rw [upd_ne (Nat.ne_of_lt hlt)]
    exact (hf c hcm).1
  done := by
    intro X hP hw hK hc i pins s σ H E I hf ⟨hz, pI, ⟨x0, y0, pO⟩, j1, j2⟩ ⟨xs, ys, sx, sy, no⟩
    subst hP hw hK
    obtain ⟨us, rx, px⟩ := seqB I sx
    obtain ⟨vs, ry, py⟩ := seqB I sy
    have l1 := rx.length
    have l2 := ry.length
    have ht : s.TypeIs (.ref z) "zip" := ⟨_, hz, rfl⟩
    have out : ∀ {c : Addr}, c ∉ [z, TI, TO, i1, i2] → c ≠ z ∧ c ≠ TO ∧ c ≠ i1 ∧ c ≠ i2 := fun {c} h => by
      simp only [List.mem_cons, List.not_mem_nil, or_false, not_or] at h
      exact ⟨h.1, h.2.2.1, h.2.2.2.1, h.2.2.2.2⟩
    unfold pyNext
    refine wpAny_bind (wpAny_attempt (wpAny_callSpecial?_slot (name := Str.ofString "__next__") ht F.slot_zip_next (wpAny_call_entry F.slot_zip_next ht F.entry_zip_next (zb_stop (I.ok.hd hc) D hz pI pO j1 j2 px py (by
      rcases no with q | q
      · exact .inl (by simp; omega)
      · exact .inr (by simp; omega)) fun k e old st => ?_) (F.args_zip_next_1 _))))
    obtain ⟨o, eo, co⟩ := st
    refine wpAny_bind (wpAny_isInstance (T := "StopIteration") (b := true) ⟨o, eo, co⟩ isSubtype_stop ?_)
    exact wpAny_pure ⟨rfl, I.turnedL (t' := s.toks) (ch := [z, TI, TO, i1, i2]) (fun c o h q => old c o (out h).1 (out h).2.1 (out h).2.2.1 (out h).2.2.2 q) hf⟩
def iZipB (K : PySem.W.Frag) (ta : TA) : TI := fun σ H R => ta σ H fun vs H1 => ∃ (a b : Addr) (b1 b2 : Bool) (xs ys : List V), vs = [.ref a, .ref b] ∧ SqV b1 K H1 a xs ∧ SqV b2 K H1 b ys ∧ R (ItzB K b1 b2 a b) H1
theorem pi_zipB {X : Cx} {e e2 : Expr} {ta : TA} {p pos tpos : Pos} {elts : List Expr} {kk : Nat} (hg : Gl X "zip") (hm : X.mg "zip" = none) (ha : PA X [e, e2] ta)
    (hs : starEach [e, e2] X.env = (false, eval e X.env) :: starEach [e2] X.env := by rfl) (hpl : (backTo pos (starEach [e2] X.env)).any (·.1) = false := by rfl) :
    PI X (.Tuple elts kk tpos) (.Call (.Name "zip" p) [e, e2] [] pos) (iZipB X.K ta) := ⟨fun pins s σ H R I h => by
  refine Call_ (ld_blt I hg hm PyProof.Rows.boot_zip (PyProof.Rows.callWith_type1 (thn (ha.run pos pins s σ H _ I h) fun us s1 ⟨vs, H1, I1, r1, a, b, b1, b2, xs, ys, ex, sx, sy, q⟩ => ?_) hs hpl))
  subst ex
  obtain ⟨u, v, rfl, ru, rv⟩ : ∃ u v, us = [u, v] ∧ RelV (.ref a) u ∧ RelV (.ref b) v := by
    cases r1 with
    | cons r r2 =>
      cases r2 with
      | cons r2 r3 =>
        cases r3
        exact ⟨_, _, rfl, r, r2⟩
  cases ru
  cases rv
  obtain ⟨us, rx, px⟩ := seqB I1 sx
  obtain ⟨vs, ry, py⟩ := seqB I1 sy
  refine zb_call px py fun k zk pI pO j1 j2 old => wpAny_pyIter_zip zk ⟨s1.heap.objs.size + 4, [s1.heap.objs.size + 4, s1.heap.objs.size + 2, s1.heap.objs.size + 3, s1.heap.objs.size, s1.heap.objs.size + 1], _, _, H1, rfl, I1.kept (t' := s1.toks) old, turn_zb (PySem.W.ktu_apart s1.heap.objs.size a b px.lt py.lt), ⟨zk, pI, ⟨_, _, pO⟩, j1, j2⟩, fun c hc => ?_, q⟩
  have le : s1.heap.objs.size ≤ c := by
    simp only [List.mem_cons, List.not_mem_nil, or_false] at hc
    rcases hc with z | z | z | z | z <;> rw [z]
    · exact Nat.le_add_right _ _
    · exact Nat.le_add_right _ _
    · exact Nat.le_add_right _ _
    · exact Nat.le_refl _
    · exact Nat.le_add_right _ _
  exact I1.fpOk le (I1.hok.fresh le)⟩
end TV

set_option Elab.async false
set_option linter.all false
set_option maxRecDepth 100000
set_option maxHeartbeats 1000000
/-! Over trees: zip of sequences, nested targets, a call of a def that a name holds, tuple * int. -/
namespace TV
open PySem PySem.Spec PyProof.Rows L2 ZB
section
variable {X : Cx} {G : XK}
/-! ### zip -/
def zipD (xs ys : List D) : List D := (xs.zip ys).map fun z => .tup [z.1, z.2]
theorem zipD_len (xs ys : List D) : (zipD xs ys).length = min xs.length ys.length := by unfold zipD; rw [List.length_map, List.length_zip]
theorem zipD_get {xs ys : List D} {i : Nat} {d e : D} (h1 : xs[i]? = some d) (h2 : ys[i]? = some e) : (zipD xs ys)[i]? = some (.tup [d, e]) := by
  unfold zipD
  rw [List.getElem?_map, (List.getElem?_zip_eq_some (z := (d, e))).mpr ⟨h1, h2⟩]
  rfl
theorem seqAt {K : PySem.W.Frag} {F : Hp} {M : MS} {H : Hp} {v : V} {d : D} {xs : List D} (o : HeapOk K F M H) (i : IsD K F v d) (q : seqOf M d xs) : ∃ (b : Bool) (a : Addr) (us : List V), v = .ref a ∧ SqV b K H a us ∧ IsDs K F us xs ∧ (b = true ↔ d = .tup xs) := by
  by_cases e : d = .tup xs
  · subst e
    obtain ⟨p, us, rfl, s, r, _⟩ := asTup o (M := M) i rfl
    exact ⟨true, p, us, rfl, s, r, by simp⟩
  · have q := q.resolve_right e
    obtain ⟨p, us, rfl, s, r⟩ := asLst o i q
    exact ⟨false, p, us, rfl, .of s, r, by simp [e]⟩
theorem walks_zipB {K : PySem.W.Frag} {F0 : Hp} {a b : Addr} {b1 b2 : Bool} {xs ys : List D} {stay : MS → Prop} (h : ∀ F M H, Same F0 F → HeapOk K F M H → stay M → (∃ us, SqV b1 K H a us ∧ IsDs K F us xs) ∧ ∃ vs, SqV b2 K H b vs ∧ IsDs K F vs ys) : Walks K (ItzB K b1 b2 a b) (zipD xs ys) stay F0 where
  go := fun i F M H e o s hi => by
    rw [zipD_len] at hi
    obtain ⟨⟨us, q1, r1⟩, vs, q2, r2⟩ := h F M H e o s
    have l1 := r1.len
    have l2 := r2.len
    exact ⟨us, vs, us[i]'(by omega), vs[i]'(by omega), q1, q2, List.getElem?_eq_getElem (by omega), List.getElem?_eq_getElem (by omega)⟩
  stop := fun F M H e o s => by
    obtain ⟨⟨us, q1, r1⟩, vs, q2, r2⟩ := h F M H e o s
    have l1 := r1.len
    have l2 := r2.len
    exact ⟨us, vs, q1, q2, by rw [zipD_len]; omega⟩
  yld := fun i F M H x H' e o s hi y => by
    obtain ⟨⟨us, q1, r1⟩, vs, q2, r2⟩ := h F M H e o s
    obtain ⟨T, x', y', rfl, nT, rfl, f1, f2⟩ := y
    obtain ⟨d, ed, hd⟩ := r1.getV i (f1 us q1)
    obtain ⟨c, ec, hc⟩ := r2.getV i (f2 vs q2)
    exact ⟨upd F T (.tup [x', y']), _, .frz (o.noF nT) nT, o.frz nT, .tup (.of upd_same) (.cons (hd.mono (Same.upd (o.noF nT))) (.cons (hc.mono (Same.upd (o.noF nT))) .nil)), zipD_get ed ec⟩
def wiZip (w : DA) : DI := fun ρ M x k => w ρ M x fun ds M1 => ∃ d e xs ys, ds = [d, e] ∧ seqOf M1 d xs ∧ seqOf M1 e ys ∧ k (zipD xs ys) (fun M2 => seqOf M2 d xs ∧ seqOf M2 e ys) M1
theorem xi_zip {e e2 : Expr} {elts : List Expr} {kk : Nat} {tpos p pos : Pos} {w : DA} (hg : Gl X "zip") (hm : X.mg "zip" = none) (ha : XA X G [e, e2] w)
    (hs : starEach [e, e2] X.env = (false, eval e X.env) :: starEach [e2] X.env := by rfl) (hpl : (backTo pos (starEach [e2] X.env)).any (·.1) = false := by rfl) :
    XI X G (.Tuple elts kk tpos) (.Call (.Name "zip" p) [e, e2] [] pos) (wiZip w) :=
  PI.imp (pi_zipB hg hm ha hs hpl) fun σ H R ⟨ρ, F, M, x, k, a, q, kt⟩ => ⟨ρ, F, M, x, _, a, q, fun vs ds F1 M1 H1 g1 o1 i1 ⟨d, c, xs, ys, ed, v1, v2, q1⟩ => by
    subst ed
    obtain ⟨v, u, rfl, iv, iu⟩ := isDs2 i1
    obtain ⟨b1, a1, us, rfl, s1, r1, t1⟩ := seqAt o1 iv v1
    obtain ⟨b2, a2, vs, rfl, s2, r2, t2⟩ := seqAt o1 iu v2
    refine ⟨a1, a2, b1, b2, us, vs, rfl, s1, s2, kt _ _ _ F1 M1 H1 g1 o1 (walks_zipB fun F M H e' o' st => ?_) q1⟩
    obtain ⟨c1, p1, us', e1, s1', r1', t1'⟩ := seqAt o' (iv.mono e') st.1
    obtain ⟨c2, p2, vs', e2', s2', r2', t2'⟩ := seqAt o' (iu.mono e') st.2
    cases e1
    cases e2'
    have x1 : c1 = b1 := Bool.eq_iff_iff.mpr (t1'.trans t1.symm)
    have x2 : c2 = b2 := Bool.eq_iff_iff.mpr (t2'.trans t2.symm)
    subst x1 x2
    exact ⟨⟨us', s1', r1'⟩, vs', s2', r2'⟩⟩
/-! ### a target within a target -/
theorem tg_in2 {K : PySem.W.Frag} {i j l : Nat} {vs : List Nat} (hi : i ∈ vs) (hj : j ∈ vs) (hl' : l ∈ vs) :
    TgOk K (gTup K 2 (gCons (gName i) (gCons (gTup K 2 (gCons (gName j) (gCons (gName l) gNil))) gNil))) (wgTup 2 (wgCons (wgName i) (wgCons (wgTup 2 (wgCons (wgName j) (wgCons (wgName l) wgNil))) wgNil))) vs := fun v d σ ρ F M H k Q iv en o q kt => by
  obtain ⟨ds, rfl, hl, d1, r1, rfl, d2, r2, rfl, ds2, rfl, hl2, d3, r3, rfl, d4, r4, rfl, rfl, rfl, q⟩ := q
  cases iv with
  | tup s r =>
    obtain ⟨v1, v2, rfl, i1, i2⟩ := isDs2 r
    cases i2 with
    | tup s2 r2 =>
      obtain ⟨v3, v4, rfl, i3, i4⟩ := isDs2 r2
      refine ⟨_, _, rfl, sqt_mono o.sub s, rfl, v1, [_], rfl, _, [], rfl, ⟨_, _, rfl, sqt_mono o.sub s2, rfl, v3, [v4], rfl, v4, [], rfl, rfl, rfl, kt _ _ ?_ (((en.set i i1).set j i3).set l i4) q⟩⟩
      rw [wipe_set hl', wipe_set hj, wipe_set hi, wipe_wipe fun v h => h]
/-! ### a call by a name that holds a def -/
section
variable {CX : CXT} {k i : Nat} {f : Addr} {fd : FuncData} {ps : List Str} {sp : Sp} {E : XK} {x : Str} {p pos : Pos} {e : Expr} {es : List Expr} {t : TA}
theorem pe_callLG (F : FnG X.prog X.w X.K X.mg X.base CX k f fd ps sp) (rm : Rm k X.A) (hN : X.N[i]? = some x) (hv : Vis X.env.scope x) (kept : PySem.W.keepIn X.K (.ref f) = true) (bound : Binds X.K fd ps []) (out : Passes CX X E) (args : PA X (e :: es) t)
    (nodb : (x == ("__debug__" : Str)) = false := by decide) (nocd : (x == ("__classdict__" : Str)) = false := by decide)
    (plain1 : starEach (e :: es) X.env = (false, eval e X.env) :: starEach es X.env := by rfl) (plain2 : (backTo pos (starEach es X.env)).any (·.1) = false := by rfl) : PE X (.Call (.Name x p) (e :: es) [] pos) (tCallL i f sp [] E t) :=
  ⟨fun pins s σ H Q I ⟨at_, ask⟩ => by
    refine wpAny_Call_Name_kw (thn ((pe_var (pos := p) hN hv nodb nocd).run pins s σ H (fun v H1 => v = .ref f ∧ H1 = H) I ⟨.ref f, at_, rfl, rfl⟩) fun u s1 ⟨v, H1, I1, r1, ev, eH⟩ => ?_)
    subst ev eH
    cases r1
    refine PySem.W.callWith_K (h₀ := X.base) I.ok.mod.kin kept (thn (args.run pos pins s1 σ _ _ I1 ask) fun us s2 ⟨vs, H2, I2, r, q⟩ => ⟨I2.kIn, goesG F rm bound .nil out I2 r q⟩) plain1 plain2⟩
end
def wCallL (i : Nat) (f : Addr) (sp : DSp) (w : DA) : DE := fun ρ M x k => ρ[i]? = some (some (.obj f)) ∧ w ρ M x fun ds M1 => sp ds M1 x k
theorem xcallL {CX : CXT} {k i : Nat} {f : Addr} {fd : FuncData} {ps : List Str} {sp : DSp} {x : Str} {p pos : Pos} {e : Expr} {es : List Expr} {w : DA} (F : FnG X.prog X.w X.K X.mg X.base CX k f fd ps (rSp X.K sp)) (rm : Rm k X.A) (hk : PySem.W.keepIn X.K (.ref f) = true) (hb : Binds X.K fd ps []) (hx : Passes CX X G)
    (ha : XA X G (e :: es) w) (hN : X.N[i]? = some x := by rfl) (hv : Vis X.env.scope x := by first | exact Or.inl rfl | exact Or.inr (Or.inl rfl) | exact Or.inr (Or.inr rfl))
    (hdb : (x == ("__debug__" : Str)) = false := by decide) (hcd : (x == ("__classdict__" : Str)) = false := by decide) (he : starEach (e :: es) X.env = (false, eval e X.env) :: starEach es X.env := by rfl) (hpl : (backTo pos (starEach es X.env)).any (·.1) = false := by rfl) :
    XE X G (.Call (.Name x p) (e :: es) [] pos) (wCallL i f sp w) :=
  PE.imp (pe_callLG F rm hN hv hk hb hx ha hdb hcd he hpl) fun σ H Q ⟨ρ, F, M, x, k, a, ⟨at_, q⟩, kt⟩ => by
    obtain ⟨v, ev, iv⟩ := a.env.at_ i _ at_
    cases iv
    refine ⟨ev, ρ, F, M, x, _, a, q, fun vs ds F1 M1 H1 g1 o1 i1 q1 => ?_⟩
    show rSp X.K sp (vs ++ []) H1 Q G
    rw [List.append_nil]
    exact ⟨ds, F1, M1, x, k, o1, i1, q1, fun v d F2 M2 H2 g2 => kt v d F2 M2 H2 (g1.trans g2), a.xok.step g1⟩
/-! ### tuple * int -/
def rRep1 (K : PySem.W.Frag) : R2 := fun x y H Q => ∃ l xs, x = .ref l ∧ y = .int 1 ∧ SqT K H l xs ∧ Q (.ref l) H
theorem mul_one (l : Addr) (items : Array Value) (n : Nat) (dd : Option Addr) (sl : Array (Option Value)) (u : Tok) (c1 : (items.isEmpty || (1 : Int) == 1) = true) :
    Meets (Builtin.«tuple.__mul__» ⟨[.ref l, .int 1 u], []⟩) (fun _ R s => s.heap.get? l = some { cls := .type "tuple", dict := dd, data := .seq items n, slots := sl } ∧ R (.ok (.ret (Value.ref l))) s) :=
  .of_wp fun prog w A R s h => by
    obtain ⟨hp, g, d, tk, os⟩ := s
    obtain ⟨hl, h⟩ := h
    have f1 := AutoSeq1.idx_int
    wp_walk using wpAny_loadPart' hl
    repeat (first
      | (refine wpAny_ite_false (by decide) ?_; wp_walk using wpAny_loadPart' hl)
      | (refine wpAny_ite_true (by rw [c1]) ?_; wp_walk using wpAny_loadPart' hl))
    exact ⟨_, rfl, h⟩
theorem op_rep1 : OpR X (binaryOp .Mult) (rRep1 X.K) := by
  intro pins s σ H x y v u Q I rx ry ⟨l, xs, ex, ey, hT, q⟩
  subst ex ey
  cases rx
  obtain ⟨t, rfl⟩ := ry
  obtain ⟨its, r, ⟨⟨cls, dd, data, sl⟩, ho, hc, n, hd⟩, _⟩ := I.tuple hT
  simp only at hc hd
  subst hc hd
  have yes : (its.toArray.isEmpty || (1 : Int) == 1) = true := by simp
  exact wpAny_binaryOp_repeat_ref (T := "tuple") (U := "int") (by decide) ⟨_, ho, rfl⟩ (fun s' => typeIs_int s' 1 t) noFill_tuple_mul F.fills_int_mul F.slot_int_rmul repeat_tuple F.slot_int_index.lookup
    (call_meets F.slot_int_rmul (typeIs_int s 1 t) F.entry_int_rmul (F.args_int_rmul_2 _ _) (int_rmul_tuple 1 t l its.toArray n dd sl)
      ⟨ho, rfl, ⟨_, ho, rfl⟩, call_meets F.slot_tuple_mul ⟨_, ho, rfl⟩ F.entry_tuple_mul (F.args_tuple_mul_2 _ _) (mul_one l its.toArray n dd sl t yes) ⟨ho, .ref l, H, I, rfl, q⟩⟩)
def mulTD : OD := fun M d e q => ∃ ds n, d = .tup ds ∧ e = .int n ∧ 1 ≤ n ∧ n ≤ 1000 ∧ 1 ≤ ds.length ∧ ds.length ≤ 1000 ∧ q (.tup (List.replicate n.toNat ds).flatten)
theorem l_mulTD : Lifts X.K mulTD (fun x y H Q => rRepT X.K x y H Q ∨ rRep1 X.K x y H Q) := fun F M H v u d e q Q o i1 i2 ⟨ds, n, ed, en, n1, n2, l1, l2, h⟩ kt => by
  subst ed en
  obtain rfl := isD_int i2
  obtain ⟨p, xs, rfl, hp, r, _⟩ := asTup o (M := M) i1 rfl
  have ll := r.len
  by_cases one : n = 1
  · subst one
    refine .inr ⟨p, xs, rfl, rfl, hp, kt _ _ F H .refl o i1 ?_⟩
    simpa [show (1 : Int).toNat = 1 from rfl, List.replicate_succ] using h
  · refine .inl ⟨p, n, xs, rfl, rfl, hp, fun e => ?_, by omega, by omega, by omega, fun z hz => kt _ _ (upd F z _) _ (.frz (o.noF hz) hz) (o.frz hz) (.tup (.of upd_same) ((r.rep _).mono (Same.upd (o.noF hz)))) h⟩
    rw [e] at ll
    simp at ll
    omega
theorem op_mulTD : OpR X (binaryOp .Mult) (fun x y H Q => rRepT X.K x y H Q ∨ rRep1 X.K x y H Q) := op_repT.or op_rep1
end
end TV

set_option Elab.async false
set_option linter.all false
set_option maxRecDepth 100000
set_option maxHeartbeats 1000000
/-! Pictures of greater numbers. -/
namespace TV
open PySem PySem.Spec PyProof.Rows L2
theorem str_of_len (s : String) : (Str.ofString s).length = s.length := by
  rw [Str.ofString_eq_toList]
  unfold Str.length
  rw [← String.length_toList]
  simp
theorem nat_show {n k : Nat} (hk : 0 < k) (h : n < 10 ^ k) : (toString n).length ≤ k := (Nat.length_repr_le_iff hk).mpr h
theorem int_show {i : Int} (h0 : -1000000000000 ≤ i) (h1 : i ≤ 1000000000000) : (PyData.int i).shown.length ≤ 14 := by
  show (Str.ofString (toString i)).length ≤ 14
  rw [str_of_len]
  cases i with
  | ofNat n =>
    have e : toString (Int.ofNat n) = toString n := rfl
    rw [e]
    have := nat_show (n := n) (k := 13) (by decide) (by have : (n : Int) ≤ 1000000000000 := h1; omega)
    omega
  | negSucc n =>
    have e : toString (Int.negSucc n) = "-" ++ toString (n + 1) := rfl
    rw [e, String.length_append]
    have := nat_show (n := n + 1) (k := 13) (by decide) (by omega)
    have : ("-" : String).length = 1 := by decide
    omega
theorem Nice.wide {i : Int} (h0 : -1000000000000 ≤ i) (h1 : i ≤ 1000000000000) : Nice (.int i) 14 0 := ⟨rfl, by
  show decide (i.natAbs.log2 < 1920) = true
  refine decide_eq_true ?_
  by_cases z : i.natAbs = 0
  · rw [z]; decide
  · exact (Nat.log2_lt z).mpr (Nat.lt_of_le_of_lt (by omega : i.natAbs ≤ 1000000000000) (by decide +kernel)), int_show h0 h1, Nat.le_refl _⟩
theorem Nice.bool (b : Bool) : Nice (.bool b) 5 0 := by cases b <;> exact ⟨rfl, rfl, by decide +kernel, Nat.le_refl _⟩
end TV

set_option Elab.async false
set_option linter.all false
set_option maxRecDepth 100000
set_option maxHeartbeats 2000000
namespace K08
open PySem PySem.Spec PyProof.Rows L2 TV
def topS (i : Nat) : Stmt := PySem.Challenge.pw_holdgates_k08_inputs_and_cuts.main.body.getD i (.Pass ⟨0, 0, 0, 0⟩)
def w_TAKEN : List (Str × Int) := [("hold", 1), ("wait", 1), ("lag", 1), ("deal", 1), ("join", 2), ("cross", 2)]
def w_GIVEN : List (Str × Int) := [("hold", 1), ("wait", 1), ("lag", 1), ("deal", 2), ("join", 1), ("cross", 2)]
def clsS (i j : Nat) : Stmt := match topS i with | .ClassDef _ _ _ b _ _ _ _ _ _ _ => b.getD j (.Pass ⟨0, 0, 0, 0⟩) | s => s
abbrev s_is_any_whole : Stmt := topS 4
theorem sc_is_any_whole : FnScope ["thing"] ["thing"] (defScope s_is_any_whole) := ⟨rfl, rfl, rfl, by decide +kernel, rfl, by decide +kernel, by decide +kernel⟩
abbrev s_is_whole : Stmt := topS 5
theorem sc_is_whole : FnScope ["thing", "least", "most"] ["thing", "least", "most"] (defScope s_is_whole) := ⟨rfl, rfl, rfl, by decide +kernel, rfl, by decide +kernel, by decide +kernel⟩
abbrev s_is_number : Stmt := topS 6
theorem sc_is_number : FnScope ["thing"] ["thing"] (defScope s_is_number) := ⟨rfl, rfl, rfl, by decide +kernel, rfl, by decide +kernel, by decide +kernel⟩
abbrev s_are_numbers : Stmt := topS 7
theorem sc_are_numbers : FnScope ["thing", "least", "most", "part"] ["thing", "least", "most"] (defScope s_are_numbers) := ⟨rfl, rfl, rfl, by decide +kernel, rfl, by decide +kernel, by decide +kernel⟩
abbrev s_are_many : Stmt := topS 8
theorem sc_are_many : FnScope ["thing", "least", "most"] ["thing", "least", "most"] (defScope s_are_many) := ⟨rfl, rfl, rfl, by decide +kernel, rfl, by decide +kernel, by decide +kernel⟩
abbrev s_first_wrong : Stmt := topS 9
theorem sc_first_wrong : FnScope ["thing", "least", "most", "is_part", "at", "part"] ["thing", "least", "most", "is_part"] (defScope s_first_wrong) := ⟨rfl, rfl, rfl, by decide +kernel, rfl, by decide +kernel, by decide +kernel⟩
abbrev s_is_made_of : Stmt := topS 18
theorem sc_is_made_of : FnScope ["thing", "signs", "most", "sign"] ["thing", "signs", "most"] (defScope s_is_made_of) := ⟨rfl, rfl, rfl, by decide +kernel, rfl, by decide +kernel, by decide +kernel⟩
abbrev s_is_name : Stmt := topS 19
theorem sc_is_name : FnScope ["thing"] ["thing"] (defScope s_is_name) := ⟨rfl, rfl, rfl, by decide +kernel, rfl, by decide +kernel, by decide +kernel⟩
abbrev s_is_rhythm : Stmt := topS 20
theorem sc_is_rhythm : FnScope ["thing"] ["thing"] (defScope s_is_rhythm) := ⟨rfl, rfl, rfl, by decide +kernel, rfl, by decide +kernel, by decide +kernel⟩
abbrev s_takes : Stmt := topS 21
theorem sc_takes : FnScope ["rhythm", "beat"] ["rhythm", "beat"] (defScope s_takes) := ⟨rfl, rfl, rfl, by decide +kernel, rfl, by decide +kernel, by decide +kernel⟩
abbrev s_times_of : Stmt := topS 22
theorem sc_times_of : FnScope ["rhythm", "beat", "rounds", "rest"] ["rhythm", "beat"] (defScope s_times_of) := ⟨rfl, rfl, rfl, by decide +kernel, rfl, by decide +kernel, by decide +kernel⟩
abbrev s_inputs : Stmt := topS 25
theorem sc_inputs : FnScope ["web", "beat", "found", "now", "times", "inlet"] ["web", "beat"] (defScope s_inputs) := ⟨rfl, rfl, rfl, by decide +kernel, rfl, by decide +kernel, by decide +kernel⟩
abbrev s_cut : Stmt := topS 26
theorem sc_cut : FnScope ["web", "feed", "beat", "row", "many"] ["web", "feed", "beat"] (defScope s_cut) := ⟨rfl, rfl, rfl, by decide +kernel, rfl, by decide +kernel, by decide +kernel⟩
abbrev s_is_endless : Stmt := topS 27
theorem sc_is_endless : FnScope ["web", "feed", "beat", "row", "many"] ["web", "feed", "beat"] (defScope s_is_endless) := ⟨rfl, rfl, rfl, by decide +kernel, rfl, by decide +kernel, by decide +kernel⟩
abbrev s_takers : Stmt := topS 28
theorem sc_takers : FnScope ["web", "beat", "inlet", "_", "rhythm"] ["web", "beat"] (defScope s_takers) := ⟨rfl, rfl, rfl, by decide +kernel, rfl, by decide +kernel, by decide +kernel⟩
abbrev s_times_by : Stmt := topS 29
theorem sc_times_by : FnScope ["web", "beat", "_", "rhythm"] ["web", "beat"] (defScope s_times_by) := ⟨rfl, rfl, rfl, by decide +kernel, rfl, by decide +kernel, by decide +kernel⟩
abbrev s_check_feed : Stmt := topS 30
theorem sc_check_feed : FnScope ["web", "thing", "inlet"] ["web", "thing"] (defScope s_check_feed) := ⟨rfl, rfl, rfl, by decide +kernel, rfl, by decide +kernel, by decide +kernel⟩
abbrev s__is_row : Stmt := topS 31
theorem sc__is_row : FnScope ["thing"] ["thing"] (defScope s__is_row) := ⟨rfl, rfl, rfl, by decide +kernel, rfl, by decide +kernel, by decide +kernel⟩
abbrev s__wrong_row : Stmt := topS 32
theorem sc__wrong_row : FnScope ["web", "thing", "many"] ["web", "thing"] (defScope s__wrong_row) := ⟨rfl, rfl, rfl, by decide +kernel, rfl, by decide +kernel, by decide +kernel⟩
abbrev s_taken_by : Stmt := topS 38
theorem sc_taken_by : FnScope ["gate"] ["gate"] (defScope s_taken_by) := ⟨rfl, rfl, rfl, by decide +kernel, rfl, by decide +kernel, by decide +kernel⟩
abbrev s_given_by : Stmt := topS 39
theorem sc_given_by : FnScope ["gate", "first"] ["gate"] (defScope s_given_by) := ⟨rfl, rfl, rfl, by decide +kernel, rfl, by decide +kernel, by decide +kernel⟩
abbrev s_told_of : Stmt := topS 40
theorem sc_told_of : FnScope ["gate"] ["gate"] (defScope s_told_of) := ⟨rfl, rfl, rfl, by decide +kernel, rfl, by decide +kernel, by decide +kernel⟩
abbrev s_size_of : Stmt := topS 41
theorem sc_size_of : FnScope ["gate"] ["gate"] (defScope s_size_of) := ⟨rfl, rfl, rfl, by decide +kernel, rfl, by decide +kernel, by decide +kernel⟩
abbrev s_is_gate : Stmt := topS 42
theorem sc_is_gate : FnScope ["thing"] ["thing"] (defScope s_is_gate) := ⟨rfl, rfl, rfl, by decide +kernel, rfl, by decide +kernel, by decide +kernel⟩
abbrev s__has_lanes : Stmt := topS 43
theorem sc__has_lanes : FnScope ["thing", "lanes", "lane"] ["thing"] (defScope s__has_lanes) := ⟨rfl, rfl, rfl, by decide +kernel, rfl, by decide +kernel, by decide +kernel⟩
abbrev s__is_told : Stmt := topS 44
theorem sc__is_told : FnScope ["word", "told", "least"] ["word", "told"] (defScope s__is_told) := ⟨rfl, rfl, rfl, by decide +kernel, rfl, by decide +kernel, by decide +kernel⟩
abbrev s_left : Stmt := topS 46
theorem sc_left : FnScope ["web", "feed", "beat", "row", "many"] ["web", "feed", "beat"] (defScope s_left) := ⟨rfl, rfl, rfl, by decide +kernel, rfl, by decide +kernel, by decide +kernel⟩
abbrev s_Web___init__ : Stmt := clsS 50 0
theorem sc_Web___init__ : FnScope ["self", "inlets", "gates"] ["self", "inlets", "gates"] (defScope s_Web___init__) := ⟨rfl, rfl, rfl, by decide +kernel, rfl, by decide +kernel, by decide +kernel⟩
abbrev s_Web_inlets : Stmt := clsS 50 3
theorem sc_Web_inlets : FnScope ["self"] ["self"] (defScope s_Web_inlets) := ⟨rfl, rfl, rfl, by decide +kernel, rfl, by decide +kernel, by decide +kernel⟩
abbrev s_is_inlet : Stmt := topS 51
theorem sc_is_inlet : FnScope ["thing"] ["thing"] (defScope s_is_inlet) := ⟨rfl, rfl, rfl, by decide +kernel, rfl, by decide +kernel, by decide +kernel⟩
abbrev s__check_inlets : Stmt := topS 52
theorem sc__check_inlets : FnScope ["inlets", "lanes", "at", "inlet"] ["inlets"] (defScope s__check_inlets) := ⟨rfl, rfl, rfl, by decide +kernel, rfl, by decide +kernel, by decide +kernel⟩
abbrev s__check_gates : Stmt := topS 53
theorem sc__check_gates : FnScope ["inlets", "gates", "lanes", "free", "size", "at", "gate", "lane", "_"] ["inlets", "gates"] (defScope s__check_gates) := ⟨rfl, rfl, rfl, by decide +kernel, rfl, by decide +kernel, by decide +kernel⟩
abbrev s__can_stand : Stmt := topS 54
theorem sc__can_stand : FnScope ["gate", "lanes", "free", "lane"] ["gate", "lanes", "free"] (defScope s__can_stand) := ⟨rfl, rfl, rfl, by decide +kernel, rfl, by decide +kernel, by decide +kernel⟩
abbrev s__law_pen : Stmt := topS 56
theorem sc__law_pen : FnScope ["_law_script"] ["_law_script"] (defScope s__law_pen) := ⟨rfl, rfl, rfl, by decide +kernel, rfl, by decide +kernel, by decide +kernel⟩
abbrev s__law_draw : Stmt := topS 57
theorem sc__law_draw : FnScope ["_law_pen_here", "_law_many", "_law_digit", "_law_at", "_law_cell", "_law_blend"] ["_law_pen_here", "_law_many"] (defScope s__law_draw) := ⟨rfl, rfl, rfl, by decide +kernel, rfl, by decide +kernel, by decide +kernel⟩
abbrev s__law_pick : Stmt := topS 58
theorem sc__law_pick : FnScope ["_law_pen_here", "_law_some"] ["_law_pen_here", "_law_some"] (defScope s__law_pick) := ⟨rfl, rfl, rfl, by decide +kernel, rfl, by decide +kernel, by decide +kernel⟩
abbrev s__law_names : Stmt := topS 59
theorem sc__law_names : FnScope ["_law_pen_here", "_law_many", "_law_letters", "_law_word", "_law_at", "_law_first", "_law_short", "_law_by", "_law_found", "_law_k", "_law_tail"] ["_law_pen_here", "_law_many"] (defScope s__law_names) := ⟨rfl, rfl, rfl, by decide +kernel, rfl, by decide +kernel, by decide +kernel⟩
abbrev s__law_rhythm : Stmt := topS 60
theorem sc__law_rhythm : FnScope ["_law_pen_here", "_law_signs", "_law_k"] ["_law_pen_here"] (defScope s__law_rhythm) := ⟨rfl, rfl, rfl, by decide +kernel, rfl, by decide +kernel, by decide +kernel⟩
abbrev s__law_given : Stmt := topS 62
theorem sc__law_given : FnScope ["_law_gate_here"] ["_law_gate_here"] (defScope s__law_given) := ⟨rfl, rfl, rfl, by decide +kernel, rfl, by decide +kernel, by decide +kernel⟩
abbrev s__law_room : Stmt := topS 63
theorem sc__law_room : FnScope ["_law_gate_here"] ["_law_gate_here"] (defScope s__law_room) := ⟨rfl, rfl, rfl, by decide +kernel, rfl, by decide +kernel, by decide +kernel⟩
abbrev s__law_gate : Stmt := topS 64
theorem sc__law_gate : FnScope ["_law_pen_here", "_law_free", "_law_names_here", "_law_room_here", "_law_word", "_law_lane", "_law_text", "_law_many", "_law_k"] ["_law_pen_here", "_law_free", "_law_names_here", "_law_room_here"] (defScope s__law_gate) := ⟨rfl, rfl, rfl, by decide +kernel, rfl, by decide +kernel, by decide +kernel⟩
abbrev s__law_web : Stmt := topS 65
theorem sc__law_web : FnScope ["_law_pen_here", "_law_most", "_law_names_here", "_law_inlets", "_law_free", "_law_gates", "_law_room_here", "_law_k", "_law_lane", "_law_rhythm_here"] ["_law_pen_here", "_law_most"] (defScope s__law_web) := ⟨rfl, rfl, rfl, by decide +kernel, rfl, by decide +kernel, by decide +kernel⟩
abbrev s__law_feed : Stmt := topS 67
theorem sc__law_feed : FnScope ["_law_pen_here", "_law_inlets", "_law_beats", "_law_ends", "_law_most_own", "_law_found", "_law_lane", "_law_rhythm_here", "_law_many", "_law_beat", "_law_k"] ["_law_pen_here", "_law_inlets", "_law_beats", "_law_ends"] (defScope s__law_feed) := ⟨rfl, rfl, rfl, by decide +kernel, rfl, by decide +kernel, by decide +kernel⟩
abbrev s__law_inputs : Stmt := topS 68
theorem sc__law_inputs : FnScope ["_law_inlets", "_law_beats", "_law_found", "_law_many", "_law_beat", "_law_k", "_law_rhythm_here", "_law_one"] ["_law_inlets", "_law_beats"] (defScope s__law_inputs) := ⟨rfl, rfl, rfl, by decide +kernel, rfl, by decide +kernel, by decide +kernel⟩
abbrev s_law : Stmt := topS 69
theorem sc_law : FnScope ["_law_script", "_law_pen_here", "_law_turn", "_law_inlets", "_law_gates", "_law_web_here", "_law_beats", "_law_feed_here", "_law_beat", "_law_due", "_law_again", "_law_told", "_law_rows", "_law_less", "_law_is_all", "_law_more", "_law_far", "_law_at", "_law_k", "_law_number"] ["_law_script"] (defScope s_law) := ⟨rfl, rfl, rfl, by decide +kernel, rfl, by decide +kernel, by decide +kernel⟩
structure Def (K : PySem.W.Frag) (mg : Str → Option Value) (x : Str) (st : Stmt) (f : Addr) (fd : FuncData) (ps : List Str) : Prop where
  fn : Fun K x x st f fd
  gl : mg x = some (.ref f)
  bi : L2.Binds K fd ps []
structure MDef (K : PySem.W.Frag) (C : Addr) (x q : Str) (st : Stmt) (f : Addr) (fd : FuncData) (ps : List Str) : Prop where
  fn : Fun K x q st f fd
  mt : Meth K C x f
  bi : L2.Binds K fd ps []
structure IDef (K : PySem.W.Frag) (C : Addr) (q : Str) (st : Stmt) (f : Addr) (fd : FuncData) (ps : List Str) (dvs : List V) (us : List Value) (dds : List D) : Prop where
  fn : FunD K "__init__" q (defArgs st) (defBody st) (defScope st) dvs [] f fd
  bi : L2.Binds K fd ps []
  bd : L2.Binds K fd ps us
  vd : Vals dvs us
  dd : ∀ F, IsDs K F dvs dds
structure Tx (w : World) (K : PySem.W.Frag) (mg : Str → Option Value) where
  C_Web : Addr
  g_Web : mg "Web" = some (.ref C_Web)
  c_Web : Cls K C_Web
  t_Web : TyC K C_Web
  no_Web : ∀ T ∈ tyNames, PySem.W.kitOne K (.type T) (.ref C_Web) = some false
  na_Web__inlets : NoAttr K C_Web "_inlets"
  na_Web__gates : NoAttr K C_Web "_gates"
  f_is_any_whole : Addr
  e_is_any_whole : FuncData
  d_is_any_whole : Def K mg "is_any_whole" s_is_any_whole f_is_any_whole e_is_any_whole ["thing"]
  f_is_whole : Addr
  e_is_whole : FuncData
  d_is_whole : Def K mg "is_whole" s_is_whole f_is_whole e_is_whole ["thing", "least", "most"]
  f_is_number : Addr
  e_is_number : FuncData
  d_is_number : Def K mg "is_number" s_is_number f_is_number e_is_number ["thing"]
  f_are_numbers : Addr
  e_are_numbers : FuncData
  d_are_numbers : Def K mg "are_numbers" s_are_numbers f_are_numbers e_are_numbers ["thing", "least", "most"]
  f_are_many : Addr
  e_are_many : FuncData
  d_are_many : Def K mg "are_many" s_are_many f_are_many e_are_many ["thing", "least", "most"]
  f_first_wrong : Addr
  e_first_wrong : FuncData
  d_first_wrong : Def K mg "first_wrong" s_first_wrong f_first_wrong e_first_wrong ["thing", "least", "most", "is_part"]
  f_is_made_of : Addr
  e_is_made_of : FuncData
  d_is_made_of : Def K mg "is_made_of" s_is_made_of f_is_made_of e_is_made_of ["thing", "signs", "most"]
  f_is_name : Addr
  e_is_name : FuncData
  d_is_name : Def K mg "is_name" s_is_name f_is_name e_is_name ["thing"]
  f_is_rhythm : Addr
  e_is_rhythm : FuncData
  d_is_rhythm : Def K mg "is_rhythm" s_is_rhythm f_is_rhythm e_is_rhythm ["thing"]
  f_takes : Addr
  e_takes : FuncData
  d_takes : Def K mg "takes" s_takes f_takes e_takes ["rhythm", "beat"]
  f_times_of : Addr
  e_times_of : FuncData
  d_times_of : Def K mg "times_of" s_times_of f_times_of e_times_of ["rhythm", "beat"]
  f_inputs : Addr
  e_inputs : FuncData
  d_inputs : Def K mg "inputs" s_inputs f_inputs e_inputs ["web", "beat"]
  f_cut : Addr
  e_cut : FuncData
  d_cut : Def K mg "cut" s_cut f_cut e_cut ["web", "feed", "beat"]
  f_is_endless : Addr
  e_is_endless : FuncData
  d_is_endless : Def K mg "is_endless" s_is_endless f_is_endless e_is_endless ["web", "feed", "beat"]
  f_takers : Addr
  e_takers : FuncData
  d_takers : Def K mg "takers" s_takers f_takers e_takers ["web", "beat"]
  f_times_by : Addr
  e_times_by : FuncData
  d_times_by : Def K mg "times_by" s_times_by f_times_by e_times_by ["web", "beat"]
  f_check_feed : Addr
  e_check_feed : FuncData
  d_check_feed : Def K mg "check_feed" s_check_feed f_check_feed e_check_feed ["web", "thing"]
  f__is_row : Addr
  e__is_row : FuncData
  d__is_row : Def K mg "_is_row" s__is_row f__is_row e__is_row ["thing"]
  f__wrong_row : Addr
  e__wrong_row : FuncData
  d__wrong_row : Def K mg "_wrong_row" s__wrong_row f__wrong_row e__wrong_row ["web", "thing"]
  f_taken_by : Addr
  e_taken_by : FuncData
  d_taken_by : Def K mg "taken_by" s_taken_by f_taken_by e_taken_by ["gate"]
  f_given_by : Addr
  e_given_by : FuncData
  d_given_by : Def K mg "given_by" s_given_by f_given_by e_given_by ["gate"]
  f_told_of : Addr
  e_told_of : FuncData
  d_told_of : Def K mg "told_of" s_told_of f_told_of e_told_of ["gate"]
  f_size_of : Addr
  e_size_of : FuncData
  d_size_of : Def K mg "size_of" s_size_of f_size_of e_size_of ["gate"]
  f_is_gate : Addr
  e_is_gate : FuncData
  d_is_gate : Def K mg "is_gate" s_is_gate f_is_gate e_is_gate ["thing"]
  f__has_lanes : Addr
  e__has_lanes : FuncData
  d__has_lanes : Def K mg "_has_lanes" s__has_lanes f__has_lanes e__has_lanes ["thing"]
  f__is_told : Addr
  e__is_told : FuncData
  d__is_told : Def K mg "_is_told" s__is_told f__is_told e__is_told ["word", "told"]
  f_left : Addr
  e_left : FuncData
  d_left : Def K mg "left" s_left f_left e_left ["web", "feed", "beat"]
  f_Web___init__ : Addr
  e_Web___init__ : FuncData
  dv_Web___init__ : List V
  us_Web___init__ : List Value
  d_Web___init__ : IDef K C_Web "Web.__init__" s_Web___init__ f_Web___init__ e_Web___init__ ["self", "inlets", "gates"] dv_Web___init__ us_Web___init__ [.tup []]
  mk_Web : Mk K C_Web f_Web___init__
  f_Web_inlets : Addr
  e_Web_inlets : FuncData
  d_Web_inlets : MDef K C_Web "inlets" "Web.inlets" s_Web_inlets f_Web_inlets e_Web_inlets ["self"]
  f_is_inlet : Addr
  e_is_inlet : FuncData
  d_is_inlet : Def K mg "is_inlet" s_is_inlet f_is_inlet e_is_inlet ["thing"]
  f__check_inlets : Addr
  e__check_inlets : FuncData
  d__check_inlets : Def K mg "_check_inlets" s__check_inlets f__check_inlets e__check_inlets ["inlets"]
  f__check_gates : Addr
  e__check_gates : FuncData
  d__check_gates : Def K mg "_check_gates" s__check_gates f__check_gates e__check_gates ["inlets", "gates"]
  f__can_stand : Addr
  e__can_stand : FuncData
  d__can_stand : Def K mg "_can_stand" s__can_stand f__can_stand e__can_stand ["gate", "lanes", "free"]
  f__law_pen : Addr
  e__law_pen : FuncData
  d__law_pen : Def K mg "_law_pen" s__law_pen f__law_pen e__law_pen ["_law_script"]
  f__law_draw : Addr
  e__law_draw : FuncData
  d__law_draw : Def K mg "_law_draw" s__law_draw f__law_draw e__law_draw ["_law_pen_here", "_law_many"]
  f__law_pick : Addr
  e__law_pick : FuncData
  d__law_pick : Def K mg "_law_pick" s__law_pick f__law_pick e__law_pick ["_law_pen_here", "_law_some"]
  f__law_names : Addr
  e__law_names : FuncData
  d__law_names : Def K mg "_law_names" s__law_names f__law_names e__law_names ["_law_pen_here", "_law_many"]
  f__law_rhythm : Addr
  e__law_rhythm : FuncData
  d__law_rhythm : Def K mg "_law_rhythm" s__law_rhythm f__law_rhythm e__law_rhythm ["_law_pen_here"]
  f__law_given : Addr
  e__law_given : FuncData
  d__law_given : Def K mg "_law_given" s__law_given f__law_given e__law_given ["_law_gate_here"]
  f__law_room : Addr
  e__law_room : FuncData
  d__law_room : Def K mg "_law_room" s__law_room f__law_room e__law_room ["_law_gate_here"]
  f__law_gate : Addr
  e__law_gate : FuncData
  d__law_gate : Def K mg "_law_gate" s__law_gate f__law_gate e__law_gate ["_law_pen_here", "_law_free", "_law_names_here", "_law_room_here"]
  f__law_web : Addr
  e__law_web : FuncData
  d__law_web : Def K mg "_law_web" s__law_web f__law_web e__law_web ["_law_pen_here", "_law_most"]
  f__law_feed : Addr
  e__law_feed : FuncData
  d__law_feed : Def K mg "_law_feed" s__law_feed f__law_feed e__law_feed ["_law_pen_here", "_law_inlets", "_law_beats", "_law_ends"]
  f__law_inputs : Addr
  e__law_inputs : FuncData
  d__law_inputs : Def K mg "_law_inputs" s__law_inputs f__law_inputs e__law_inputs ["_law_inlets", "_law_beats"]
  f_law : Addr
  e_law : FuncData
  d_law : Def K mg "law" s_law f_law e_law ["_law_script"]
  m_abs : mg "abs" = none
  m_all : mg "all" = none
  m_any : mg "any" = none
  m_bool : mg "bool" = none
  m_divmod : mg "divmod" = none
  m_enumerate : mg "enumerate" = none
  m_int : mg "int" = none
  m_isinstance : mg "isinstance" = none
  m_len : mg "len" = none
  m_list : mg "list" = none
  m_max : mg "max" = none
  m_min : mg "min" = none
  m_range : mg "range" = none
  m_repr : mg "repr" = none
  m_set : mg "set" = none
  m_str : mg "str" = none
  m_tuple : mg "tuple" = none
  m_zip : mg "zip" = none
  x_GIVEN : Addr
  k_GIVEN : mg "GIVEN" = some (.ref x_GIVEN)
  c_GIVEN : KTab K w x_GIVEN w_GIVEN
  t_GREATEST : Tok
  c_GREATEST : mg "GREATEST" = some (.int 1000000000000 t_GREATEST)
  t_LETTERS : Tok
  c_LETTERS : mg "LETTERS" = some (.str "abcdefghijklmnopqrstuvwxyz" t_LETTERS)
  t_LONGEST_NAME : Tok
  c_LONGEST_NAME : mg "LONGEST_NAME" = some (.int 8 t_LONGEST_NAME)
  t_LONGEST_RHYTHM : Tok
  c_LONGEST_RHYTHM : mg "LONGEST_RHYTHM" = some (.int 6 t_LONGEST_RHYTHM)
  t_LONGEST_ROW : Tok
  c_LONGEST_ROW : mg "LONGEST_ROW" = some (.int 2000 t_LONGEST_ROW)
  t_LONGEST_TEXT : Tok
  c_LONGEST_TEXT : mg "LONGEST_TEXT" = some (.int 6 t_LONGEST_TEXT)
  t_MOST_GATES : Tok
  c_MOST_GATES : mg "MOST_GATES" = some (.int 10 t_MOST_GATES)
  t_MOST_INLETS : Tok
  c_MOST_INLETS : mg "MOST_INLETS" = some (.int 3 t_MOST_INLETS)
  t_MOST_KEPT : Tok
  c_MOST_KEPT : mg "MOST_KEPT" = some (.int 12 t_MOST_KEPT)
  x_TAKEN : Addr
  k_TAKEN : mg "TAKEN" = some (.ref x_TAKEN)
  c_TAKEN : KTab K w x_TAKEN w_TAKEN
/-! ### gates and inlets as data -/
inductive Gt where
  | hold (l o : Str) (c r : Int) | wait (l o : Str) (c : Int) | lag (l o : Str) (c : Int)
  | deal (l a b t : Str) | join (a b o : Str) (c : Int) | cross (a b x y : Str)
deriving Inhabited, DecidableEq
namespace Gt
def word : Gt → Str
  | hold .. => "hold" | wait .. => "wait" | lag .. => "lag" | deal .. => "deal" | join .. => "join" | cross .. => "cross"
def tk : Gt → List Str
  | hold l .. => [l] | wait l .. => [l] | lag l .. => [l] | deal l .. => [l] | join a b .. => [a, b] | cross a b .. => [a, b]
def gv : Gt → List Str
  | hold _ o .. => [o] | wait _ o _ => [o] | lag _ o _ => [o] | deal _ a b _ => [a, b] | join _ _ o _ => [o] | cross _ _ x y => [x, y]
def told : Gt → List D
  | hold _ _ c r => [.int c, .int r] | wait _ _ c => [.int c] | lag _ _ c => [.int c] | deal _ _ _ t => [.str t] | join _ _ _ c => [.int c] | cross .. => []
def sz : Gt → Int
  | hold _ _ c _ => c | wait _ _ c => c | lag _ _ c => c | deal .. => 0 | join _ _ _ c => c | cross .. => 0
def parts (g : Gt) : List D := .str g.word :: ((g.tk ++ g.gv).map D.str ++ g.told)
def d (g : Gt) : D := .tup g.parts
end Gt
def ilD (p : Str × Str) : D := .tup [.str p.1, .str p.2]
section
variable {P : Program} {w : World} {K : PySem.W.Frag} {mg : Str → Option Value} {base : Heap}
def ntk (g : Gt) : Int := g.tk.length
def ngv (g : Gt) : Int := g.gv.length
theorem tk_tab (g : Gt) : w_TAKEN.lookup g.word = some (ntk g) := by
  have h1 : w_TAKEN.lookup ("hold" : Str) = some 1 := by decide +kernel
  have h2 : w_TAKEN.lookup ("wait" : Str) = some 1 := by decide +kernel
  have h3 : w_TAKEN.lookup ("lag" : Str) = some 1 := by decide +kernel
  have h4 : w_TAKEN.lookup ("deal" : Str) = some 1 := by decide +kernel
  have h5 : w_TAKEN.lookup ("join" : Str) = some 2 := by decide +kernel
  have h6 : w_TAKEN.lookup ("cross" : Str) = some 2 := by decide +kernel
  cases g <;> first | exact h1 | exact h2 | exact h3 | exact h4 | exact h5 | exact h6
theorem gv_tab (g : Gt) : w_GIVEN.lookup g.word = some (ngv g) := by
  have h1 : w_GIVEN.lookup ("hold" : Str) = some 1 := by decide +kernel
  have h2 : w_GIVEN.lookup ("wait" : Str) = some 1 := by decide +kernel
  have h3 : w_GIVEN.lookup ("lag" : Str) = some 1 := by decide +kernel
  have h4 : w_GIVEN.lookup ("deal" : Str) = some 2 := by decide +kernel
  have h5 : w_GIVEN.lookup ("join" : Str) = some 1 := by decide +kernel
  have h6 : w_GIVEN.lookup ("cross" : Str) = some 2 := by decide +kernel
  cases g <;> first | exact h1 | exact h2 | exact h3 | exact h4 | exact h5 | exact h6
theorem at0 {ds : List D} {d : D} : atI (d :: ds) 0 = some d := by
  unfold atI ixN
  rw [if_pos (by decide), if_pos (by rw [List.length_cons]; omega)]
  rfl
theorem cut_tk (g : Gt) : cutD g.parts (some 1) (some (1 + ntk g)) = g.tk.map D.str := by cases g <;> rfl
theorem cut_gv (g : Gt) : cutD g.parts (some (1 + ntk g)) (some (1 + ntk g + ngv g)) = g.gv.map D.str := by cases g <;> rfl
theorem cut_told (g : Gt) : cutD g.parts (some (1 + ntk g + ngv g)) none = g.told := by cases g <;> rfl
theorem ixw {M : MS} {g : Gt} {q : D → Prop} (h : q (.str g.word)) : ixD M g.d (.int 0) q := ix_tup.mpr ⟨_, at0, h⟩
def sp_taken_by : DSp := fun ds M _ k => ds.length = 1 ∧ ∃ g : Gt, ds = [g.d] ∧ k (.tup (g.tk.map D.str)) M
theorem ok_taken_by (T : Tx w K mg) : FnG P w K mg base CX0 1 T.f_taken_by T.e_taken_by ["gate"] (rSp K sp_taken_by) := by
  refine fnT T.d_taken_by.fn sc_taken_by (fun ds M x k h => h.1) (by decide) (fun cdv A outer s H E rm => ?_) (fun ds M x k h => h)
  refine ⟨_, (yss_one (ys_ret (xe_sliceT (xv 0) (xo_some xint) (xo_some (xe_op op_addD l_addD xint (xe_kget T.c_TAKEN (xglob (v := .ref T.x_TAKEN) (fun _ => .obj) (by rfl) T.k_TAKEN rfl) (xe_ix (xv 0) xint (fun _ _ => rfl)) (fun _ _ => rfl))))))), ?_⟩
  intro ds M k h
  obtain ⟨-, g, rfl, hk⟩ := h
  rw [show start0 ["gate"] [g.d] = [some g.d] from rfl]
  simp only [TV.wSeq, TV.wIf, TV.wOr, TV.wNot, TV.wAnd, TV.wAndV, TV.wOrV, TV.wNotV, TV.wIfE, TV.wTru, TV.wCB, TV.wCons, TV.wVar, TV.wC, TV.wNil, TV.wTest, TV.wChain, TV.wRet, TV.wRetN, TV.wNext, TV.wSet, TV.wDrop, TV.wFrz, TV.wMut, TV.wDisp, TV.wTup, TV.wOp, TV.wCall, TV.wDget, TV.wDput, TV.wFor, TV.wLc, TV.wiL, TV.wiT, TV.wiS, TV.wiR1, TV.wiR2, TV.wiEnumS, TV.wiEnum, TV.wgName, TV.wgTup, TV.wgCons, TV.wgNil, TV.wPar, TV.wPar3, TV.wAsg, TV.wUn, TV.wBM, TV.wApp, TV.wSetI, TV.wListC, TV.wSlL, TV.wSlS, TV.wSlT, TV.wNo, TV.wPart, TV.wYes, TV.wRev, TV.wMelt, TV.wNever, TV.wipe0, TV.wDictM, TV.wDictF, TV.wDict0F, TV.wPairs, List.getElem?_cons_zero, List.getElem?_cons_succ, List.set_cons_zero, List.set_cons_succ, Option.some.injEq, exists_eq_left', exists_eq_left, List.cons.injEq, and_true, true_and, TV.D.str.injEq, TV.D.int.injEq, TV.D.bl.injEq, TV.D.lst.injEq, TV.D.tup.injEq, TV.D.obj.injEq, List.map_cons, List.map_nil, TV.cmpD, TV.subD, TV.intD, TV.inSD, TV.ninSD, TV.isND, TV.notND, TV.isBD, TV.divmodC, TV.absC, isiC', TV.len_str, TV.len_lst, TV.len_tup, TV.tru_bl, TV.tru_int, TV.tru_str, TV.tru_lst, TV.tru_tup, TV.add_int, TV.add_str, TV.add_lst, TV.add_tup, TV.mul_int, TV.mul_str, TV.ix_str, TV.ix_lst, TV.ix_tup, TV.count_str, TV.eq_str, TV.ne_str, TV.eq_int, TV.ne_int, TV.eq_lst, TV.ne_lst, TV.sgx, TV.vw_non, TV.vw_bl, TV.vw_int, TV.vw_str, TV.vw_tup, TV.vw_lst, TV.vw_fro, TV.vw_dct, TV.key_str, TV.key_int, false_or, or_false, List.length_nil, TV.ty_non, TV.ty_bl, TV.ty_int, TV.ty_str, TV.ty_tup, TV.ty_lst, TV.ty_dct, TV.tn_str, TV.tn_int, TV.tn_bool, TV.tn_list, TV.tn_tuple, TV.tn_dict, TV.isT, String.reduceBEq, Bool.and_false, Bool.or_false, Bool.false_and, Bool.and_true, Bool.true_or, Bool.or_true, and_assoc, TV.D.ty.injEq, reduceCtorEq, exists_const, exists_and_left, exists_and_right, if_true, if_false, Bool.not_true, Bool.not_false, Bool.false_eq_true, reduceIte, TV.wExt, TV.wPop, TV.wPopAt, TV.wChg, TV.wAny, TV.wAug, TV.wWhile, TV.kgetD, TV.kinD, TV.wLenSet, TV.wLenO, TV.wEqO, TV.wMakeF, TV.wMeth, TV.wFld, TV.wSetF, TV.sumC, TV.minC, TV.maxC, TV.lcmC, TV.isiO, TV.wLc2, TV.wSlT, TV.wIsiT, List.append_nil, TV.wEither, TV.wGet2, TV.wDict1, TV.wDictZip, TV.sumIC, TV.wiZip, TV.wCallL, TV.mulTD]
  refine ixw ⟨_, rfl, _, tk_tab g, g.parts, rfl, ?_⟩
  rw [cut_tk]
  exact hk
def sp_given_by : DSp := fun ds M _ k => ds.length = 1 ∧ ∃ g : Gt, ds = [g.d] ∧ k (.tup (g.gv.map D.str)) M
theorem ok_given_by (T : Tx w K mg) : FnG P w K mg base CX0 1 T.f_given_by T.e_given_by ["gate"] (rSp K sp_given_by) := by
  refine fnT T.d_given_by.fn sc_given_by (fun ds M x k h => h.1) (by decide) (fun cdv A outer s H E rm => ?_) (fun ds M x k h => h)
  refine ⟨_, (yss_cons (ys_set (i := 1) sc_given_by.nd rfl (by first | exact Or.inl rfl | exact Or.inr rfl) (xe_op op_addD l_addD xint (xe_kget T.c_TAKEN (xglob (v := .ref T.x_TAKEN) (fun _ => .obj) (by rfl) T.k_TAKEN rfl) (xe_ix (xv 0) xint (fun _ _ => rfl)) (fun _ _ => rfl))))
      (yss_one (ys_ret (xe_sliceT (xv 0) (xo_some (xv 1)) (xo_some (xe_op op_addD l_addD (xv 1) (xe_kget T.c_GIVEN (xglob (v := .ref T.x_GIVEN) (fun _ => .obj) (by rfl) T.k_GIVEN rfl) (xe_ix (xv 0) xint (fun _ _ => rfl)) (fun _ _ => rfl)))))))), ?_⟩
  intro ds M k h
  obtain ⟨-, g, rfl, hk⟩ := h
  rw [show start0 ["gate", "first"] [g.d] = [some g.d, none] from rfl]
  simp only [TV.wSeq, TV.wIf, TV.wOr, TV.wNot, TV.wAnd, TV.wAndV, TV.wOrV, TV.wNotV, TV.wIfE, TV.wTru, TV.wCB, TV.wCons, TV.wVar, TV.wC, TV.wNil, TV.wTest, TV.wChain, TV.wRet, TV.wRetN, TV.wNext, TV.wSet, TV.wDrop, TV.wFrz, TV.wMut, TV.wDisp, TV.wTup, TV.wOp, TV.wCall, TV.wDget, TV.wDput, TV.wFor, TV.wLc, TV.wiL, TV.wiT, TV.wiS, TV.wiR1, TV.wiR2, TV.wiEnumS, TV.wiEnum, TV.wgName, TV.wgTup, TV.wgCons, TV.wgNil, TV.wPar, TV.wPar3, TV.wAsg, TV.wUn, TV.wBM, TV.wApp, TV.wSetI, TV.wListC, TV.wSlL, TV.wSlS, TV.wSlT, TV.wNo, TV.wPart, TV.wYes, TV.wRev, TV.wMelt, TV.wNever, TV.wipe0, TV.wDictM, TV.wDictF, TV.wDict0F, TV.wPairs, List.getElem?_cons_zero, List.getElem?_cons_succ, List.set_cons_zero, List.set_cons_succ, Option.some.injEq, exists_eq_left', exists_eq_left, List.cons.injEq, and_true, true_and, TV.D.str.injEq, TV.D.int.injEq, TV.D.bl.injEq, TV.D.lst.injEq, TV.D.tup.injEq, TV.D.obj.injEq, List.map_cons, List.map_nil, TV.cmpD, TV.subD, TV.intD, TV.inSD, TV.ninSD, TV.isND, TV.notND, TV.isBD, TV.divmodC, TV.absC, isiC', TV.len_str, TV.len_lst, TV.len_tup, TV.tru_bl, TV.tru_int, TV.tru_str, TV.tru_lst, TV.tru_tup, TV.add_int, TV.add_str, TV.add_lst, TV.add_tup, TV.mul_int, TV.mul_str, TV.ix_str, TV.ix_lst, TV.ix_tup, TV.count_str, TV.eq_str, TV.ne_str, TV.eq_int, TV.ne_int, TV.eq_lst, TV.ne_lst, TV.sgx, TV.vw_non, TV.vw_bl, TV.vw_int, TV.vw_str, TV.vw_tup, TV.vw_lst, TV.vw_fro, TV.vw_dct, TV.key_str, TV.key_int, false_or, or_false, List.length_nil, TV.ty_non, TV.ty_bl, TV.ty_int, TV.ty_str, TV.ty_tup, TV.ty_lst, TV.ty_dct, TV.tn_str, TV.tn_int, TV.tn_bool, TV.tn_list, TV.tn_tuple, TV.tn_dict, TV.isT, String.reduceBEq, Bool.and_false, Bool.or_false, Bool.false_and, Bool.and_true, Bool.true_or, Bool.or_true, and_assoc, TV.D.ty.injEq, reduceCtorEq, exists_const, exists_and_left, exists_and_right, if_true, if_false, Bool.not_true, Bool.not_false, Bool.false_eq_true, reduceIte, TV.wExt, TV.wPop, TV.wPopAt, TV.wChg, TV.wAny, TV.wAug, TV.wWhile, TV.kgetD, TV.kinD, TV.wLenSet, TV.wLenO, TV.wEqO, TV.wMakeF, TV.wMeth, TV.wFld, TV.wSetF, TV.sumC, TV.minC, TV.maxC, TV.lcmC, TV.isiO, TV.wLc2, TV.wSlT, TV.wIsiT, List.append_nil, TV.wEither, TV.wGet2, TV.wDict1, TV.wDictZip, TV.sumIC, TV.wiZip, TV.wCallL, TV.mulTD]
  refine ixw ⟨_, rfl, _, tk_tab g, ?_⟩
  refine ixw ⟨_, rfl, _, gv_tab g, g.parts, rfl, ?_⟩
  rw [cut_gv]
  exact hk
def sp_told_of : DSp := fun ds M _ k => ds.length = 1 ∧ ∃ g : Gt, ds = [g.d] ∧ k (.tup g.told) M
theorem ok_told_of (T : Tx w K mg) : FnG P w K mg base CX0 1 T.f_told_of T.e_told_of ["gate"] (rSp K sp_told_of) := by
  refine fnT T.d_told_of.fn sc_told_of (fun ds M x k h => h.1) (by decide) (fun cdv A outer s H E rm => ?_) (fun ds M x k h => h)
  refine ⟨_, (yss_one (ys_ret (xe_sliceT (xv 0) (xo_some (xe_op op_addD l_addD (xe_op op_addD l_addD xint (xe_kget T.c_TAKEN (xglob (v := .ref T.x_TAKEN) (fun _ => .obj) (by rfl) T.k_TAKEN rfl) (xe_ix (xv 0) xint (fun _ _ => rfl)) (fun _ _ => rfl))) (xe_kget T.c_GIVEN (xglob (v := .ref T.x_GIVEN) (fun _ => .obj) (by rfl) T.k_GIVEN rfl) (xe_ix (xv 0) xint (fun _ _ => rfl)) (fun _ _ => rfl)))) xo_none))), ?_⟩
  intro ds M k h
  obtain ⟨-, g, rfl, hk⟩ := h
  rw [show start0 ["gate"] [g.d] = [some g.d] from rfl]
  simp only [TV.wSeq, TV.wIf, TV.wOr, TV.wNot, TV.wAnd, TV.wAndV, TV.wOrV, TV.wNotV, TV.wIfE, TV.wTru, TV.wCB, TV.wCons, TV.wVar, TV.wC, TV.wNil, TV.wTest, TV.wChain, TV.wRet, TV.wRetN, TV.wNext, TV.wSet, TV.wDrop, TV.wFrz, TV.wMut, TV.wDisp, TV.wTup, TV.wOp, TV.wCall, TV.wDget, TV.wDput, TV.wFor, TV.wLc, TV.wiL, TV.wiT, TV.wiS, TV.wiR1, TV.wiR2, TV.wiEnumS, TV.wiEnum, TV.wgName, TV.wgTup, TV.wgCons, TV.wgNil, TV.wPar, TV.wPar3, TV.wAsg, TV.wUn, TV.wBM, TV.wApp, TV.wSetI, TV.wListC, TV.wSlL, TV.wSlS, TV.wSlT, TV.wNo, TV.wPart, TV.wYes, TV.wRev, TV.wMelt, TV.wNever, TV.wipe0, TV.wDictM, TV.wDictF, TV.wDict0F, TV.wPairs, List.getElem?_cons_zero, List.getElem?_cons_succ, List.set_cons_zero, List.set_cons_succ, Option.some.injEq, exists_eq_left', exists_eq_left, List.cons.injEq, and_true, true_and, TV.D.str.injEq, TV.D.int.injEq, TV.D.bl.injEq, TV.D.lst.injEq, TV.D.tup.injEq, TV.D.obj.injEq, List.map_cons, List.map_nil, TV.cmpD, TV.subD, TV.intD, TV.inSD, TV.ninSD, TV.isND, TV.notND, TV.isBD, TV.divmodC, TV.absC, isiC', TV.len_str, TV.len_lst, TV.len_tup, TV.tru_bl, TV.tru_int, TV.tru_str, TV.tru_lst, TV.tru_tup, TV.add_int, TV.add_str, TV.add_lst, TV.add_tup, TV.mul_int, TV.mul_str, TV.ix_str, TV.ix_lst, TV.ix_tup, TV.count_str, TV.eq_str, TV.ne_str, TV.eq_int, TV.ne_int, TV.eq_lst, TV.ne_lst, TV.sgx, TV.vw_non, TV.vw_bl, TV.vw_int, TV.vw_str, TV.vw_tup, TV.vw_lst, TV.vw_fro, TV.vw_dct, TV.key_str, TV.key_int, false_or, or_false, List.length_nil, TV.ty_non, TV.ty_bl, TV.ty_int, TV.ty_str, TV.ty_tup, TV.ty_lst, TV.ty_dct, TV.tn_str, TV.tn_int, TV.tn_bool, TV.tn_list, TV.tn_tuple, TV.tn_dict, TV.isT, String.reduceBEq, Bool.and_false, Bool.or_false, Bool.false_and, Bool.and_true, Bool.true_or, Bool.or_true, and_assoc, TV.D.ty.injEq, reduceCtorEq, exists_const, exists_and_left, exists_and_right, if_true, if_false, Bool.not_true, Bool.not_false, Bool.false_eq_true, reduceIte, TV.wExt, TV.wPop, TV.wPopAt, TV.wChg, TV.wAny, TV.wAug, TV.wWhile, TV.kgetD, TV.kinD, TV.wLenSet, TV.wLenO, TV.wEqO, TV.wMakeF, TV.wMeth, TV.wFld, TV.wSetF, TV.sumC, TV.minC, TV.maxC, TV.lcmC, TV.isiO, TV.wLc2, TV.wSlT, TV.wIsiT, List.append_nil, TV.wEither, TV.wGet2, TV.wDict1, TV.wDictZip, TV.sumIC, TV.wiZip, TV.wCallL, TV.mulTD]
  refine ixw ⟨_, rfl, _, tk_tab g, ?_⟩
  refine ixw ⟨_, rfl, _, gv_tab g, g.parts, rfl, ?_⟩
  rw [cut_told]
  exact hk
theorem mem_strs {z : Str} : ∀ ws : List Str, memD (.str z) (ws.map D.str) = decide (z ∈ ws)
  | [] => rfl
  | y :: ws => by
    have ih := mem_strs (z := z) ws
    unfold memD at ih ⊢
    rw [List.map_cons, List.any_cons, ih]
    show ((y == z) || decide (z ∈ ws)) = _
    by_cases e : z = y
    · subst e
      simp
    · have q : (y == z) = false := beq_eq_false_iff_ne.mpr (Ne.symm e)
      rw [q, Bool.false_or]
      simp [e]
theorem flat_strs (ws : List Str) : (ws.map D.str).all flatD = true := by rw [List.all_map]; exact List.all_eq_true.mpr fun _ _ => rfl
theorem in_strs {M : MS} {z : Str} {ws : List Str} {q : D → Prop} (h : q (.bl (decide (z ∈ ws)))) : TV.inD false M (.str z) (.tup (ws.map D.str)) q :=
  ⟨rfl, .inr ⟨_, rfl, flat_strs ws, by rw [if_neg (by decide), mem_strs]; exact h⟩⟩
theorem in_strsL {M : MS} {d : D} {z : Str} {ws : List Str} {neg : Bool} {q : D → Prop} (e : view M d = .lst (ws.map D.str)) (h : q (.bl (if neg then !decide (z ∈ ws) else decide (z ∈ ws)))) : TV.inD neg M (.str z) d q :=
  ⟨rfl, .inl ⟨_, e, flat_strs ws, by rw [mem_strs]; exact h⟩⟩
theorem in_strsT {M : MS} {z : Str} {ws : List Str} {q : D → Prop} (h : q (.bl (!decide (z ∈ ws)))) : TV.inD true M (.str z) (.tup (ws.map D.str)) q :=
  ⟨rfl, .inr ⟨_, rfl, flat_strs ws, by rw [mem_strs]; exact h⟩⟩
def dc : Gt → Bool
  | .deal .. => true | .cross .. => true | _ => false
theorem in_dc (g : Gt) : decide (g.word ∈ (["deal", "cross"] : List Str)) = dc g := by
  have h1 : decide (("hold" : Str) ∈ (["deal", "cross"] : List Str)) = false := by decide +kernel
  have h2 : decide (("wait" : Str) ∈ (["deal", "cross"] : List Str)) = false := by decide +kernel
  have h3 : decide (("lag" : Str) ∈ (["deal", "cross"] : List Str)) = false := by decide +kernel
  have h4 : decide (("deal" : Str) ∈ (["deal", "cross"] : List Str)) = true := by decide +kernel
  have h5 : decide (("join" : Str) ∈ (["deal", "cross"] : List Str)) = false := by decide +kernel
  have h6 : decide (("cross" : Str) ∈ (["deal", "cross"] : List Str)) = true := by decide +kernel
  cases g <;> first | exact h1 | exact h2 | exact h3 | exact h4 | exact h5 | exact h6
def isCross : Gt → Bool
  | .cross .. => true | _ => false
theorem eq_cross (g : Gt) : (g.word == ("cross" : Str)) = isCross g := by
  have h0 : (("hold" : Str) == ("cross" : Str)) = false := by decide +kernel
  have h1 : (("wait" : Str) == ("cross" : Str)) = false := by decide +kernel
  have h2 : (("lag" : Str) == ("cross" : Str)) = false := by decide +kernel
  have h3 : (("deal" : Str) == ("cross" : Str)) = false := by decide +kernel
  have h4 : (("join" : Str) == ("cross" : Str)) = false := by decide +kernel
  have h5 : (("cross" : Str) == ("cross" : Str)) = true := by decide +kernel
  cases g <;> first | exact h0 | exact h1 | exact h2 | exact h3 | exact h4 | exact h5
def isDeal : Gt → Bool
  | .deal .. => true | _ => false
theorem eq_deal (g : Gt) : (g.word == ("deal" : Str)) = isDeal g := by
  have h0 : (("hold" : Str) == ("deal" : Str)) = false := by decide +kernel
  have h1 : (("wait" : Str) == ("deal" : Str)) = false := by decide +kernel
  have h2 : (("lag" : Str) == ("deal" : Str)) = false := by decide +kernel
  have h3 : (("deal" : Str) == ("deal" : Str)) = true := by decide +kernel
  have h4 : (("join" : Str) == ("deal" : Str)) = false := by decide +kernel
  have h5 : (("cross" : Str) == ("deal" : Str)) = false := by decide +kernel
  cases g <;> first | exact h0 | exact h1 | exact h2 | exact h3 | exact h4 | exact h5
def isHold : Gt → Bool
  | .hold .. => true | _ => false
theorem eq_hold (g : Gt) : (g.word == ("hold" : Str)) = isHold g := by
  have h0 : (("hold" : Str) == ("hold" : Str)) = true := by decide +kernel
  have h1 : (("wait" : Str) == ("hold" : Str)) = false := by decide +kernel
  have h2 : (("lag" : Str) == ("hold" : Str)) = false := by decide +kernel
  have h3 : (("deal" : Str) == ("hold" : Str)) = false := by decide +kernel
  have h4 : (("join" : Str) == ("hold" : Str)) = false := by decide +kernel
  have h5 : (("cross" : Str) == ("hold" : Str)) = false := by decide +kernel
  cases g <;> first | exact h0 | exact h1 | exact h2 | exact h3 | exact h4 | exact h5
def isLag : Gt → Bool
  | .lag .. => true | _ => false
theorem eq_lag (g : Gt) : (g.word == ("lag" : Str)) = isLag g := by
  have h0 : (("hold" : Str) == ("lag" : Str)) = false := by decide +kernel
  have h1 : (("wait" : Str) == ("lag" : Str)) = false := by decide +kernel
  have h2 : (("lag" : Str) == ("lag" : Str)) = true := by decide +kernel
  have h3 : (("deal" : Str) == ("lag" : Str)) = false := by decide +kernel
  have h4 : (("join" : Str) == ("lag" : Str)) = false := by decide +kernel
  have h5 : (("cross" : Str) == ("lag" : Str)) = false := by decide +kernel
  cases g <;> first | exact h0 | exact h1 | exact h2 | exact h3 | exact h4 | exact h5
def isJoin : Gt → Bool
  | .join .. => true | _ => false
theorem eq_join (g : Gt) : (g.word == ("join" : Str)) = isJoin g := by
  have h0 : (("hold" : Str) == ("join" : Str)) = false := by decide +kernel
  have h1 : (("wait" : Str) == ("join" : Str)) = false := by decide +kernel
  have h2 : (("lag" : Str) == ("join" : Str)) = false := by decide +kernel
  have h3 : (("deal" : Str) == ("join" : Str)) = false := by decide +kernel
  have h4 : (("join" : Str) == ("join" : Str)) = true := by decide +kernel
  have h5 : (("cross" : Str) == ("join" : Str)) = false := by decide +kernel
  cases g <;> first | exact h0 | exact h1 | exact h2 | exact h3 | exact h4 | exact h5
def jc : Gt → Bool
  | .join .. => true | .cross .. => true | _ => false
theorem in_jc (g : Gt) : decide (g.word ∈ (["join", "cross"] : List Str)) = jc g := by
  have h0 : decide (("hold" : Str) ∈ (["join", "cross"] : List Str)) = false := by decide +kernel
  have h1 : decide (("wait" : Str) ∈ (["join", "cross"] : List Str)) = false := by decide +kernel
  have h2 : decide (("lag" : Str) ∈ (["join", "cross"] : List Str)) = false := by decide +kernel
  have h3 : decide (("deal" : Str) ∈ (["join", "cross"] : List Str)) = false := by decide +kernel
  have h4 : decide (("join" : Str) ∈ (["join", "cross"] : List Str)) = true := by decide +kernel
  have h5 : decide (("cross" : Str) ∈ (["join", "cross"] : List Str)) = true := by decide +kernel
  cases g <;> first | exact h0 | exact h1 | exact h2 | exact h3 | exact h4 | exact h5
def sp_size_of : DSp := fun ds M _ k => ds.length = 1 ∧ ∃ g : Gt, ds = [g.d] ∧ k (.int g.sz) M
theorem ok_size_of (T : Tx w K mg) : FnG P w K mg base CX0 2 T.f_size_of T.e_size_of ["gate"] (rSp K sp_size_of) := by
  refine fnT T.d_size_of.fn sc_size_of (fun ds M x k h => h.1) (by decide) (fun cdv A outer s H E rm => ?_) (fun ds M x k h => h)
  refine ⟨_, (yss_cons (ys_if (xt_cmp op_in_seq l_inD (xe_ix (xv 0) xint (fun _ _ => rfl)) (xe_tup (xa_cons xstr (xa_cons xstr xa_nil))) (by rfl)) (yss_one (ys_ret xint)) yss_nil)
      (yss_one (ys_ret (xe_ix (xcall (ok_told_of T) (rm.mono (by decide)) (by rfl) T.d_told_of.gl T.d_told_of.fn.kp T.d_told_of.bi pass0 (xa_cons (xv 0) xa_nil)) xint (fun _ _ => rfl))))), ?_⟩
  intro ds M k h
  obtain ⟨-, g, rfl, hk⟩ := h
  rw [show start0 ["gate"] [g.d] = [some g.d] from rfl]
  simp only [TV.wSeq, TV.wIf, TV.wOr, TV.wNot, TV.wAnd, TV.wAndV, TV.wOrV, TV.wNotV, TV.wIfE, TV.wTru, TV.wCB, TV.wCons, TV.wVar, TV.wC, TV.wNil, TV.wTest, TV.wChain, TV.wRet, TV.wRetN, TV.wNext, TV.wSet, TV.wDrop, TV.wFrz, TV.wMut, TV.wDisp, TV.wTup, TV.wOp, TV.wCall, TV.wDget, TV.wDput, TV.wFor, TV.wLc, TV.wiL, TV.wiT, TV.wiS, TV.wiR1, TV.wiR2, TV.wiEnumS, TV.wiEnum, TV.wgName, TV.wgTup, TV.wgCons, TV.wgNil, TV.wPar, TV.wPar3, TV.wAsg, TV.wUn, TV.wBM, TV.wApp, TV.wSetI, TV.wListC, TV.wSlL, TV.wSlS, TV.wSlT, TV.wNo, TV.wPart, TV.wYes, TV.wRev, TV.wMelt, TV.wNever, TV.wipe0, TV.wDictM, TV.wDictF, TV.wDict0F, TV.wPairs, List.getElem?_cons_zero, List.getElem?_cons_succ, List.set_cons_zero, List.set_cons_succ, Option.some.injEq, exists_eq_left', exists_eq_left, List.cons.injEq, and_true, true_and, TV.D.str.injEq, TV.D.int.injEq, TV.D.bl.injEq, TV.D.lst.injEq, TV.D.tup.injEq, TV.D.obj.injEq, List.map_cons, List.map_nil, TV.cmpD, TV.subD, TV.intD, TV.inSD, TV.ninSD, TV.isND, TV.notND, TV.isBD, TV.divmodC, TV.absC, isiC', TV.len_str, TV.len_lst, TV.len_tup, TV.tru_bl, TV.tru_int, TV.tru_str, TV.tru_lst, TV.tru_tup, TV.add_int, TV.add_str, TV.add_lst, TV.add_tup, TV.mul_int, TV.mul_str, TV.ix_str, TV.ix_lst, TV.ix_tup, TV.count_str, TV.eq_str, TV.ne_str, TV.eq_int, TV.ne_int, TV.eq_lst, TV.ne_lst, TV.sgx, TV.vw_non, TV.vw_bl, TV.vw_int, TV.vw_str, TV.vw_tup, TV.vw_lst, TV.vw_fro, TV.vw_dct, TV.key_str, TV.key_int, false_or, or_false, List.length_nil, TV.ty_non, TV.ty_bl, TV.ty_int, TV.ty_str, TV.ty_tup, TV.ty_lst, TV.ty_dct, TV.tn_str, TV.tn_int, TV.tn_bool, TV.tn_list, TV.tn_tuple, TV.tn_dict, TV.isT, String.reduceBEq, Bool.and_false, Bool.or_false, Bool.false_and, Bool.and_true, Bool.true_or, Bool.or_true, and_assoc, TV.D.ty.injEq, reduceCtorEq, exists_const, exists_and_left, exists_and_right, if_true, if_false, Bool.not_true, Bool.not_false, Bool.false_eq_true, reduceIte, TV.wExt, TV.wPop, TV.wPopAt, TV.wChg, TV.wAny, TV.wAug, TV.wWhile, TV.kgetD, TV.kinD, TV.wLenSet, TV.wLenO, TV.wEqO, TV.wMakeF, TV.wMeth, TV.wFld, TV.wSetF, TV.sumC, TV.minC, TV.maxC, TV.lcmC, TV.isiO, TV.wLc2, TV.wSlT, TV.wIsiT, List.append_nil, TV.wEither, TV.wGet2, TV.wDict1, TV.wDictZip, TV.sumIC, TV.wiZip, TV.wCallL, TV.mulTD]
  refine ixw ⟨by decide, in_strs (ws := ["deal", "cross"]) ⟨_, rfl, ?_⟩⟩
  rw [in_dc]
  cases g with
  | deal => exact hk
  | cross => exact hk
  | _ => exact ⟨rfl, _, rfl, ix_tup.mpr ⟨_, at0, hk⟩⟩
def madeOf (d : D) (signs : Str) (most : Int) : Bool := match d with
  | .str s => (decide (1 ≤ (s.length : Int)) && decide ((s.length : Int) ≤ most)) && s.cps.toList.all fun c => decide (c ∈ signs.cps.toList)
  | _ => false
def hasX (d : D) : Bool := match d with
  | .str s => decide (120 ∈ s.cps.toList)
  | _ => false
def sane (d : D) : Prop := (∃ t, tyD d = some t) ∧ ∀ s, d = .str s → s.length ≤ 100000
def sp_is_made_of : DSp := fun ds M _ k => ds.length = 3 ∧ ∃ d signs most, ds = [d, .str signs, .int most] ∧ sane d ∧ k (.bl (madeOf d signs most)) M
theorem ok_is_made_of (T : Tx w K mg) : FnG P w K mg base CX0 1 T.f_is_made_of T.e_is_made_of ["thing", "signs", "most"] (rSp K sp_is_made_of) := by
  refine fnT T.d_is_made_of.fn sc_is_made_of (fun ds M x k h => h.1) (by decide) (fun cdv A outer s H E rm => ?_) (fun ds M x k h => h)
  refine ⟨_, (yss_cons (ys_if (PW.pt (xw_or (xt_not (xt_tru (xe_callB call_isi l_isi (by rfl) T.m_isinstance (by decide +kernel) (xa_cons (xv 0) (xa_cons (xbltn (v := .ty "str") (fun _ => .ty) (by rfl) T.m_str (by decide +kernel) rfl) xa_nil))))) (xw_or1 (xt_not (xt_chain op_le op_le l_cmpD l_cmpD xint (xe_callB call_lenD' l_lenC (by rfl) T.m_len (by decide +kernel) (xa_cons (xv 0) xa_nil)) (xv 2)))))) (yss_one (ys_ret xbl)) yss_nil)
      (yss_one (ys_ret (xe_callB (cr_all rfl) l_allC (by rfl) T.m_all (by decide +kernel) (xa_cons (xl_frz (xl_lc (own := [("sign", 3)]) (g := gName 3) rfl sc_is_made_of.nd (xi_str (xv 0)) (blkOk_by (N := ["thing", "signs", "most", "sign"]) (sc := defScope s_is_made_of) (by decide +kernel)) (tg_name (by decide)) (fun _ _ _ _ _ => pg_name (i := 3) sc_is_made_of.nd rfl (by first | exact Or.inl rfl | exact Or.inr rfl)) (fun _ _ _ _ _ => xts_nil) (fun _ _ _ _ _ => (xe_cmp op_in_sign l_inSD (xv 3) (xv 1) (by rfl))))) xa_nil))))), ?_⟩
  intro ds M k h
  obtain ⟨-, d, signs, most, rfl, ⟨⟨t, ht⟩, hs⟩, hk⟩ := h
  rw [show start0 ["thing", "signs", "most", "sign"] [d, D.str signs, D.int most] = [some d, some (.str signs), some (.int most), none] from rfl]
  cases d with
  | str z =>
    have hz := hs z rfl
    simp only [TV.wSeq, TV.wIf, TV.wOr, TV.wNot, TV.wAnd, TV.wAndV, TV.wOrV, TV.wNotV, TV.wIfE, TV.wTru, TV.wCB, TV.wCons, TV.wVar, TV.wC, TV.wNil, TV.wTest, TV.wChain, TV.wRet, TV.wRetN, TV.wNext, TV.wSet, TV.wDrop, TV.wFrz, TV.wMut, TV.wDisp, TV.wTup, TV.wOp, TV.wCall, TV.wDget, TV.wDput, TV.wFor, TV.wLc, TV.wiL, TV.wiT, TV.wiS, TV.wiR1, TV.wiR2, TV.wiEnumS, TV.wiEnum, TV.wgName, TV.wgTup, TV.wgCons, TV.wgNil, TV.wPar, TV.wPar3, TV.wAsg, TV.wUn, TV.wBM, TV.wApp, TV.wSetI, TV.wListC, TV.wSlL, TV.wSlS, TV.wSlT, TV.wNo, TV.wPart, TV.wYes, TV.wRev, TV.wMelt, TV.wNever, TV.wipe0, TV.wDictM, TV.wDictF, TV.wDict0F, TV.wPairs, List.getElem?_cons_zero, List.getElem?_cons_succ, List.set_cons_zero, List.set_cons_succ, Option.some.injEq, exists_eq_left', exists_eq_left, List.cons.injEq, and_true, true_and, TV.D.str.injEq, TV.D.int.injEq, TV.D.bl.injEq, TV.D.lst.injEq, TV.D.tup.injEq, TV.D.obj.injEq, List.map_cons, List.map_nil, TV.cmpD, TV.subD, TV.intD, TV.inSD, TV.ninSD, TV.isND, TV.notND, TV.isBD, TV.divmodC, TV.absC, isiC', TV.len_str, TV.len_lst, TV.len_tup, TV.tru_bl, TV.tru_int, TV.tru_str, TV.tru_lst, TV.tru_tup, TV.add_int, TV.add_str, TV.add_lst, TV.add_tup, TV.mul_int, TV.mul_str, TV.ix_str, TV.ix_lst, TV.ix_tup, TV.count_str, TV.eq_str, TV.ne_str, TV.eq_int, TV.ne_int, TV.eq_lst, TV.ne_lst, TV.sgx, TV.vw_non, TV.vw_bl, TV.vw_int, TV.vw_str, TV.vw_tup, TV.vw_lst, TV.vw_fro, TV.vw_dct, TV.key_str, TV.key_int, false_or, or_false, List.length_nil, TV.ty_non, TV.ty_bl, TV.ty_int, TV.ty_str, TV.ty_tup, TV.ty_lst, TV.ty_dct, TV.tn_str, TV.tn_int, TV.tn_bool, TV.tn_list, TV.tn_tuple, TV.tn_dict, TV.isT, String.reduceBEq, Bool.and_false, Bool.or_false, Bool.false_and, Bool.and_true, Bool.true_or, Bool.or_true, and_assoc, TV.D.ty.injEq, reduceCtorEq, exists_const, exists_and_left, exists_and_right, if_true, if_false, Bool.not_true, Bool.not_false, Bool.false_eq_true, reduceIte, TV.wExt, TV.wPop, TV.wPopAt, TV.wChg, TV.wAny, TV.wAug, TV.wWhile, TV.kgetD, TV.kinD, TV.wLenSet, TV.wLenO, TV.wEqO, TV.wMakeF, TV.wMeth, TV.wFld, TV.wSetF, TV.sumC, TV.minC, TV.maxC, TV.lcmC, TV.isiO, TV.wLc2, TV.wSlT, TV.wIsiT, List.append_nil, TV.wEither, TV.wGet2, TV.wDict1, TV.wDictZip, TV.sumIC, TV.wiZip, TV.wCallL, TV.mulTD]
    refine ⟨hz, ?_⟩
    by_cases h1 : (1 : Int) ≤ (z.length : Int)
    · by_cases h2 : (z.length : Int) ≤ most
      · simp only [h1, h2, decide_true, Bool.not_true, if_true, Bool.false_eq_true, if_false]
        refine ⟨by rw [signs_len]; exact hz, fun i acc M' => M' = M ∧ acc = (z.cps.toList.take i).map fun c => D.bl (decide (c ∈ signs.cps.toList)), ⟨rfl, rfl⟩, fun i d acc M' hi ⟨hM, ha⟩ => ?_, fun acc M' ⟨hM, ha⟩ => ?_⟩
        · obtain ⟨c, hc, rfl⟩ := signs_get hi
          exact ⟨c, rfl, hM, by rw [map_step hc, ha]⟩
        · subst hM ha
          refine ⟨_, (z.cps.toList.map fun c => decide (c ∈ signs.cps.toList)), rfl, ?_, ?_⟩
          · rw [List.map_map, signs_len, List.take_of_length_le (by rw [Array.length_toList]; exact Nat.le_refl _)]; rfl
          · simpa [madeOf, h1, h2] using hk
      · simpa [madeOf, h1, h2] using hk
    · simpa [madeOf, h1] using hk
  | _ =>
    simp only [TV.wSeq, TV.wIf, TV.wOr, TV.wNot, TV.wAnd, TV.wAndV, TV.wOrV, TV.wNotV, TV.wIfE, TV.wTru, TV.wCB, TV.wCons, TV.wVar, TV.wC, TV.wNil, TV.wTest, TV.wChain, TV.wRet, TV.wRetN, TV.wNext, TV.wSet, TV.wDrop, TV.wFrz, TV.wMut, TV.wDisp, TV.wTup, TV.wOp, TV.wCall, TV.wDget, TV.wDput, TV.wFor, TV.wLc, TV.wiL, TV.wiT, TV.wiS, TV.wiR1, TV.wiR2, TV.wiEnumS, TV.wiEnum, TV.wgName, TV.wgTup, TV.wgCons, TV.wgNil, TV.wPar, TV.wPar3, TV.wAsg, TV.wUn, TV.wBM, TV.wApp, TV.wSetI, TV.wListC, TV.wSlL, TV.wSlS, TV.wSlT, TV.wNo, TV.wPart, TV.wYes, TV.wRev, TV.wMelt, TV.wNever, TV.wipe0, TV.wDictM, TV.wDictF, TV.wDict0F, TV.wPairs, List.getElem?_cons_zero, List.getElem?_cons_succ, List.set_cons_zero, List.set_cons_succ, Option.some.injEq, exists_eq_left', exists_eq_left, List.cons.injEq, and_true, true_and, TV.D.str.injEq, TV.D.int.injEq, TV.D.bl.injEq, TV.D.lst.injEq, TV.D.tup.injEq, TV.D.obj.injEq, List.map_cons, List.map_nil, TV.cmpD, TV.subD, TV.intD, TV.inSD, TV.ninSD, TV.isND, TV.notND, TV.isBD, TV.divmodC, TV.absC, isiC', TV.len_str, TV.len_lst, TV.len_tup, TV.tru_bl, TV.tru_int, TV.tru_str, TV.tru_lst, TV.tru_tup, TV.add_int, TV.add_str, TV.add_lst, TV.add_tup, TV.mul_int, TV.mul_str, TV.ix_str, TV.ix_lst, TV.ix_tup, TV.count_str, TV.eq_str, TV.ne_str, TV.eq_int, TV.ne_int, TV.eq_lst, TV.ne_lst, TV.sgx, TV.vw_non, TV.vw_bl, TV.vw_int, TV.vw_str, TV.vw_tup, TV.vw_lst, TV.vw_fro, TV.vw_dct, TV.key_str, TV.key_int, false_or, or_false, List.length_nil, TV.ty_non, TV.ty_bl, TV.ty_int, TV.ty_str, TV.ty_tup, TV.ty_lst, TV.ty_dct, TV.tn_str, TV.tn_int, TV.tn_bool, TV.tn_list, TV.tn_tuple, TV.tn_dict, TV.isT, String.reduceBEq, Bool.and_false, Bool.or_false, Bool.false_and, Bool.and_true, Bool.true_or, Bool.or_true, and_assoc, TV.D.ty.injEq, reduceCtorEq, exists_const, exists_and_left, exists_and_right, if_true, if_false, Bool.not_true, Bool.not_false, Bool.false_eq_true, reduceIte, TV.wExt, TV.wPop, TV.wPopAt, TV.wChg, TV.wAny, TV.wAug, TV.wWhile, TV.kgetD, TV.kinD, TV.wLenSet, TV.wLenO, TV.wEqO, TV.wMakeF, TV.wMeth, TV.wFld, TV.wSetF, TV.sumC, TV.minC, TV.maxC, TV.lcmC, TV.isiO, TV.wLc2, TV.wSlT, TV.wIsiT, List.append_nil, TV.wEither, TV.wGet2, TV.wDict1, TV.wDictZip, TV.sumIC, TV.wiZip, TV.wCallL, TV.mulTD]
    first | exact hk | (simp [tyD] at ht)
def letters : Str := "abcdefghijklmnopqrstuvwxyz"
def isNm (d : D) : Bool := madeOf d letters 8
def isRh (d : D) : Bool := madeOf d "x-" 6 && hasX d
def sp_is_name : DSp := fun ds M _ k => ds.length = 1 ∧ ∃ d, ds = [d] ∧ sane d ∧ k (.bl (isNm d)) M
theorem ok_is_name (T : Tx w K mg) : FnG P w K mg base CX0 2 T.f_is_name T.e_is_name ["thing"] (rSp K sp_is_name) := by
  refine fnT T.d_is_name.fn sc_is_name (fun ds M x k h => h.1) (by decide) (fun cdv A outer s H E rm => ?_) (fun ds M x k h => h)
  refine ⟨_, (yss_one (ys_ret (xcall (ok_is_made_of T) (rm.mono (by decide)) (by rfl) T.d_is_made_of.gl T.d_is_made_of.fn.kp T.d_is_made_of.bi pass0 (xa_cons (xv 0) (xa_cons (xglob (v := .str "abcdefghijklmnopqrstuvwxyz") (fun _ => .str) (by rfl) T.c_LETTERS ⟨_, rfl⟩) (xa_cons (xglob (v := .int 8) (fun _ => .int) (by rfl) T.c_LONGEST_NAME ⟨_, rfl⟩) xa_nil)))))), ?_⟩
  intro ds M k h
  obtain ⟨-, d, rfl, hs, hk⟩ := h
  rw [show start0 ["thing"] [d] = [some d] from rfl]
  simp only [TV.wSeq, TV.wIf, TV.wOr, TV.wNot, TV.wAnd, TV.wAndV, TV.wOrV, TV.wNotV, TV.wIfE, TV.wTru, TV.wCB, TV.wCons, TV.wVar, TV.wC, TV.wNil, TV.wTest, TV.wChain, TV.wRet, TV.wRetN, TV.wNext, TV.wSet, TV.wDrop, TV.wFrz, TV.wMut, TV.wDisp, TV.wTup, TV.wOp, TV.wCall, TV.wDget, TV.wDput, TV.wFor, TV.wLc, TV.wiL, TV.wiT, TV.wiS, TV.wiR1, TV.wiR2, TV.wiEnumS, TV.wiEnum, TV.wgName, TV.wgTup, TV.wgCons, TV.wgNil, TV.wPar, TV.wPar3, TV.wAsg, TV.wUn, TV.wBM, TV.wApp, TV.wSetI, TV.wListC, TV.wSlL, TV.wSlS, TV.wSlT, TV.wNo, TV.wPart, TV.wYes, TV.wRev, TV.wMelt, TV.wNever, TV.wipe0, TV.wDictM, TV.wDictF, TV.wDict0F, TV.wPairs, List.getElem?_cons_zero, List.getElem?_cons_succ, List.set_cons_zero, List.set_cons_succ, Option.some.injEq, exists_eq_left', exists_eq_left, List.cons.injEq, and_true, true_and, TV.D.str.injEq, TV.D.int.injEq, TV.D.bl.injEq, TV.D.lst.injEq, TV.D.tup.injEq, TV.D.obj.injEq, List.map_cons, List.map_nil, TV.cmpD, TV.subD, TV.intD, TV.inSD, TV.ninSD, TV.isND, TV.notND, TV.isBD, TV.divmodC, TV.absC, isiC', TV.len_str, TV.len_lst, TV.len_tup, TV.tru_bl, TV.tru_int, TV.tru_str, TV.tru_lst, TV.tru_tup, TV.add_int, TV.add_str, TV.add_lst, TV.add_tup, TV.mul_int, TV.mul_str, TV.ix_str, TV.ix_lst, TV.ix_tup, TV.count_str, TV.eq_str, TV.ne_str, TV.eq_int, TV.ne_int, TV.eq_lst, TV.ne_lst, TV.sgx, TV.vw_non, TV.vw_bl, TV.vw_int, TV.vw_str, TV.vw_tup, TV.vw_lst, TV.vw_fro, TV.vw_dct, TV.key_str, TV.key_int, false_or, or_false, List.length_nil, TV.ty_non, TV.ty_bl, TV.ty_int, TV.ty_str, TV.ty_tup, TV.ty_lst, TV.ty_dct, TV.tn_str, TV.tn_int, TV.tn_bool, TV.tn_list, TV.tn_tuple, TV.tn_dict, TV.isT, String.reduceBEq, Bool.and_false, Bool.or_false, Bool.false_and, Bool.and_true, Bool.true_or, Bool.or_true, and_assoc, TV.D.ty.injEq, reduceCtorEq, exists_const, exists_and_left, exists_and_right, if_true, if_false, Bool.not_true, Bool.not_false, Bool.false_eq_true, reduceIte, TV.wExt, TV.wPop, TV.wPopAt, TV.wChg, TV.wAny, TV.wAug, TV.wWhile, TV.kgetD, TV.kinD, TV.wLenSet, TV.wLenO, TV.wEqO, TV.wMakeF, TV.wMeth, TV.wFld, TV.wSetF, TV.sumC, TV.minC, TV.maxC, TV.lcmC, TV.isiO, TV.wLc2, TV.wSlT, TV.wIsiT, List.append_nil, TV.wEither, TV.wGet2, TV.wDict1, TV.wDictZip, TV.sumIC, TV.wiZip, TV.wCallL, TV.mulTD]
  exact ⟨rfl, d, _, _, rfl, hs, hk⟩
def sp_is_rhythm : DSp := fun ds M _ k => ds.length = 1 ∧ ∃ d, ds = [d] ∧ sane d ∧ k (.bl (isRh d)) M
theorem ok_is_rhythm (T : Tx w K mg) : FnG P w K mg base CX0 2 T.f_is_rhythm T.e_is_rhythm ["thing"] (rSp K sp_is_rhythm) := by
  refine fnT T.d_is_rhythm.fn sc_is_rhythm (fun ds M x k h => h.1) (by decide) (fun cdv A outer s H E rm => ?_) (fun ds M x k h => h)
  refine ⟨_, (yss_one (ys_ret (xe_and (xcall (ok_is_made_of T) (rm.mono (by decide)) (by rfl) T.d_is_made_of.gl T.d_is_made_of.fn.kp T.d_is_made_of.bi pass0 (xa_cons (xv 0) (xa_cons xstr (xa_cons (xglob (v := .int 6) (fun _ => .int) (by rfl) T.c_LONGEST_RHYTHM ⟨_, rfl⟩) xa_nil)))) (xe_one (xe_cmp op_in_sign l_inSD xstr (xv 0) (by rfl)))))), ?_⟩
  intro ds M k h
  obtain ⟨-, d, rfl, hs, hk⟩ := h
  rw [show start0 ["thing"] [d] = [some d] from rfl]
  simp only [TV.wSeq, TV.wIf, TV.wOr, TV.wNot, TV.wAnd, TV.wAndV, TV.wOrV, TV.wNotV, TV.wIfE, TV.wTru, TV.wCB, TV.wCons, TV.wVar, TV.wC, TV.wNil, TV.wTest, TV.wChain, TV.wRet, TV.wRetN, TV.wNext, TV.wSet, TV.wDrop, TV.wFrz, TV.wMut, TV.wDisp, TV.wTup, TV.wOp, TV.wCall, TV.wDget, TV.wDput, TV.wFor, TV.wLc, TV.wiL, TV.wiT, TV.wiS, TV.wiR1, TV.wiR2, TV.wiEnumS, TV.wiEnum, TV.wgName, TV.wgTup, TV.wgCons, TV.wgNil, TV.wPar, TV.wPar3, TV.wAsg, TV.wUn, TV.wBM, TV.wApp, TV.wSetI, TV.wListC, TV.wSlL, TV.wSlS, TV.wSlT, TV.wNo, TV.wPart, TV.wYes, TV.wRev, TV.wMelt, TV.wNever, TV.wipe0, TV.wDictM, TV.wDictF, TV.wDict0F, TV.wPairs, List.getElem?_cons_zero, List.getElem?_cons_succ, List.set_cons_zero, List.set_cons_succ, Option.some.injEq, exists_eq_left', exists_eq_left, List.cons.injEq, and_true, true_and, TV.D.str.injEq, TV.D.int.injEq, TV.D.bl.injEq, TV.D.lst.injEq, TV.D.tup.injEq, TV.D.obj.injEq, List.map_cons, List.map_nil, TV.cmpD, TV.subD, TV.intD, TV.inSD, TV.ninSD, TV.isND, TV.notND, TV.isBD, TV.divmodC, TV.absC, isiC', TV.len_str, TV.len_lst, TV.len_tup, TV.tru_bl, TV.tru_int, TV.tru_str, TV.tru_lst, TV.tru_tup, TV.add_int, TV.add_str, TV.add_lst, TV.add_tup, TV.mul_int, TV.mul_str, TV.ix_str, TV.ix_lst, TV.ix_tup, TV.count_str, TV.eq_str, TV.ne_str, TV.eq_int, TV.ne_int, TV.eq_lst, TV.ne_lst, TV.sgx, TV.vw_non, TV.vw_bl, TV.vw_int, TV.vw_str, TV.vw_tup, TV.vw_lst, TV.vw_fro, TV.vw_dct, TV.key_str, TV.key_int, false_or, or_false, List.length_nil, TV.ty_non, TV.ty_bl, TV.ty_int, TV.ty_str, TV.ty_tup, TV.ty_lst, TV.ty_dct, TV.tn_str, TV.tn_int, TV.tn_bool, TV.tn_list, TV.tn_tuple, TV.tn_dict, TV.isT, String.reduceBEq, Bool.and_false, Bool.or_false, Bool.false_and, Bool.and_true, Bool.true_or, Bool.or_true, and_assoc, TV.D.ty.injEq, reduceCtorEq, exists_const, exists_and_left, exists_and_right, if_true, if_false, Bool.not_true, Bool.not_false, Bool.false_eq_true, reduceIte, TV.wExt, TV.wPop, TV.wPopAt, TV.wChg, TV.wAny, TV.wAug, TV.wWhile, TV.kgetD, TV.kinD, TV.wLenSet, TV.wLenO, TV.wEqO, TV.wMakeF, TV.wMeth, TV.wFld, TV.wSetF, TV.sumC, TV.minC, TV.maxC, TV.lcmC, TV.isiO, TV.wLc2, TV.wSlT, TV.wIsiT, List.append_nil, TV.wEither, TV.wGet2, TV.wDict1, TV.wDictZip, TV.sumIC, TV.wiZip, TV.wCallL, TV.mulTD]
  refine ⟨rfl, d, _, _, rfl, hs, _, rfl, ?_⟩
  unfold isRh at hk
  cases e : madeOf d "x-" 6 with
  | false => rw [e] at hk; exact hk
  | true =>
    rw [e, Bool.true_and] at hk
    rw [if_pos rfl]
    cases d with
    | str z => exact ⟨120, x_eq, z, rfl, hk⟩
    | _ => cases e
/-! ### what is let by -/
def abc : List Nat := letters.cps.toList
def okName (s : Str) : Prop := 1 ≤ s.length ∧ s.length ≤ 8 ∧ ∀ c ∈ s.cps.toList, c ∈ abc
def okRh (z : Str) : Prop := 1 ≤ z.length ∧ z.length ≤ 6 ∧ (∀ c ∈ z.cps.toList, c = 120 ∨ c = 45) ∧ 120 ∈ z.cps.toList
def okTx (z : Str) : Prop := 1 ≤ z.length ∧ z.length ≤ 6 ∧ ∀ c ∈ z.cps.toList, c = 108 ∨ c = 114
theorem made_of {z signs : Str} {most : Int} (h1 : 1 ≤ z.length) (h2 : (z.length : Int) ≤ most) (h3 : ∀ c ∈ z.cps.toList, c ∈ signs.cps.toList) : madeOf (.str z) signs most = true := by
  show ((decide (1 ≤ (z.length : Int)) && decide ((z.length : Int) ≤ most)) && z.cps.toList.all fun c => decide (c ∈ signs.cps.toList)) = true
  rw [decide_eq_true (by omega), decide_eq_true h2, Bool.true_and, Bool.true_and]
  exact List.all_eq_true.mpr fun c hc => decide_eq_true (h3 c hc)
theorem nm_ok {z : Str} (h : okName z) : isNm (.str z) = true := made_of h.1 (by have := h.2.1; omega) h.2.2
theorem rh_ok {z : Str} (h : okRh z) : isRh (.str z) = true := by
  unfold isRh
  have e : ("x-" : Str).cps.toList = [120, 45] := by decide +kernel
  rw [made_of h.1 (by have := h.2.1; omega) (fun c hc => by rw [e]; rcases h.2.2.1 c hc with q | q <;> subst q <;> decide), Bool.true_and]
  exact decide_eq_true h.2.2.2
theorem sane_str {z : Str} (h : z.length ≤ 100000) : sane (.str z) := ⟨⟨_, rfl⟩, fun s e => by cases e; exact h⟩
namespace Gt
def okc : Gt → Prop
  | hold _ _ c r => 0 ≤ c ∧ c ≤ 12 ∧ 0 ≤ r ∧ r ≤ c
  | wait _ _ c => 0 ≤ c ∧ c ≤ 12
  | lag _ _ c => 1 ≤ c ∧ c ≤ 12
  | deal _ _ _ t => okTx t
  | join _ _ _ c => 0 ≤ c ∧ c ≤ 12
  | cross .. => True
def ok (g : Gt) : Prop := (∀ x ∈ g.tk ++ g.gv, okName x) ∧ (g.tk ++ g.gv).Nodup ∧ g.okc
end Gt
def sp_is_any_whole : DSp := fun ds M _ k => ds.length = 1 ∧ ∃ i, ds = [.int i] ∧ k (.bl true) M
theorem ok_is_any_whole (T : Tx w K mg) : FnG P w K mg base CX0 1 T.f_is_any_whole T.e_is_any_whole ["thing"] (rSp K sp_is_any_whole) := by
  refine fnT T.d_is_any_whole.fn sc_is_any_whole (fun ds M x k h => h.1) (by decide) (fun cdv A outer s H E rm => ?_) (fun ds M x k h => h)
  refine ⟨_, (yss_one (ys_ret (xe_and (xe_callB call_isi l_isi (by rfl) T.m_isinstance (by decide +kernel) (xa_cons (xv 0) (xa_cons (xbltn (v := .ty "int") (fun _ => .ty) (by rfl) T.m_int (by decide +kernel) rfl) xa_nil))) (xe_one (xe_not (xe_callB call_isi l_isi (by rfl) T.m_isinstance (by decide +kernel) (xa_cons (xv 0) (xa_cons (xbltn (v := .ty "bool") (fun _ => .ty) (by rfl) T.m_bool (by decide +kernel) rfl) xa_nil)))))))), ?_⟩
  intro ds M k h
  obtain ⟨-, i, rfl, hk⟩ := h
  rw [show start0 ["thing"] [D.int i] = [some (.int i)] from rfl]
  simp only [TV.wSeq, TV.wIf, TV.wOr, TV.wNot, TV.wAnd, TV.wAndV, TV.wOrV, TV.wNotV, TV.wIfE, TV.wTru, TV.wCB, TV.wCons, TV.wVar, TV.wC, TV.wNil, TV.wTest, TV.wChain, TV.wRet, TV.wRetN, TV.wNext, TV.wSet, TV.wDrop, TV.wFrz, TV.wMut, TV.wDisp, TV.wTup, TV.wOp, TV.wCall, TV.wDget, TV.wDput, TV.wFor, TV.wLc, TV.wiL, TV.wiT, TV.wiS, TV.wiR1, TV.wiR2, TV.wiEnumS, TV.wiEnum, TV.wgName, TV.wgTup, TV.wgCons, TV.wgNil, TV.wPar, TV.wPar3, TV.wAsg, TV.wUn, TV.wBM, TV.wApp, TV.wSetI, TV.wListC, TV.wSlL, TV.wSlS, TV.wSlT, TV.wNo, TV.wPart, TV.wYes, TV.wRev, TV.wMelt, TV.wNever, TV.wipe0, TV.wDictM, TV.wDictF, TV.wDict0F, TV.wPairs, List.getElem?_cons_zero, List.getElem?_cons_succ, List.set_cons_zero, List.set_cons_succ, Option.some.injEq, exists_eq_left', exists_eq_left, List.cons.injEq, and_true, true_and, TV.D.str.injEq, TV.D.int.injEq, TV.D.bl.injEq, TV.D.lst.injEq, TV.D.tup.injEq, TV.D.obj.injEq, List.map_cons, List.map_nil, TV.cmpD, TV.subD, TV.intD, TV.inSD, TV.ninSD, TV.isND, TV.notND, TV.isBD, TV.divmodC, TV.absC, isiC', TV.len_str, TV.len_lst, TV.len_tup, TV.tru_bl, TV.tru_int, TV.tru_str, TV.tru_lst, TV.tru_tup, TV.add_int, TV.add_str, TV.add_lst, TV.add_tup, TV.mul_int, TV.mul_str, TV.ix_str, TV.ix_lst, TV.ix_tup, TV.count_str, TV.eq_str, TV.ne_str, TV.eq_int, TV.ne_int, TV.eq_lst, TV.ne_lst, TV.sgx, TV.vw_non, TV.vw_bl, TV.vw_int, TV.vw_str, TV.vw_tup, TV.vw_lst, TV.vw_fro, TV.vw_dct, TV.key_str, TV.key_int, false_or, or_false, List.length_nil, TV.ty_non, TV.ty_bl, TV.ty_int, TV.ty_str, TV.ty_tup, TV.ty_lst, TV.ty_dct, TV.tn_str, TV.tn_int, TV.tn_bool, TV.tn_list, TV.tn_tuple, TV.tn_dict, TV.isT, String.reduceBEq, Bool.and_false, Bool.or_false, Bool.false_and, Bool.and_true, Bool.true_or, Bool.or_true, and_assoc, TV.D.ty.injEq, reduceCtorEq, exists_const, exists_and_left, exists_and_right, if_true, if_false, Bool.not_true, Bool.not_false, Bool.false_eq_true, reduceIte, TV.wExt, TV.wPop, TV.wPopAt, TV.wChg, TV.wAny, TV.wAug, TV.wWhile, TV.kgetD, TV.kinD, TV.wLenSet, TV.wLenO, TV.wEqO, TV.wMakeF, TV.wMeth, TV.wFld, TV.wSetF, TV.sumC, TV.minC, TV.maxC, TV.lcmC, TV.isiO, TV.wLc2, TV.wSlT, TV.wIsiT, List.append_nil, TV.wEither, TV.wGet2, TV.wDict1, TV.wDictZip, TV.sumIC, TV.wiZip, TV.wCallL, TV.mulTD]
  exact hk
def sp_is_whole : DSp := fun ds M _ k => ds.length = 3 ∧ ∃ i a b, ds = [.int i, .int a, .int b] ∧ k (.bl (decide (a ≤ i) && decide (i ≤ b))) M
theorem ok_is_whole (T : Tx w K mg) : FnG P w K mg base CX0 2 T.f_is_whole T.e_is_whole ["thing", "least", "most"] (rSp K sp_is_whole) := by
  refine fnT T.d_is_whole.fn sc_is_whole (fun ds M x k h => h.1) (by decide) (fun cdv A outer s H E rm => ?_) (fun ds M x k h => h)
  refine ⟨_, (yss_one (ys_ret (xe_and (xcall (ok_is_any_whole T) (rm.mono (by decide)) (by rfl) T.d_is_any_whole.gl T.d_is_any_whole.fn.kp T.d_is_any_whole.bi pass0 (xa_cons (xv 0) xa_nil)) (xe_one (xe_chain op_le op_le l_cmpD l_cmpD (xv 1) (xv 0) (xv 2)))))), ?_⟩
  intro ds M k h
  obtain ⟨-, i, a, b, rfl, hk⟩ := h
  rw [show start0 ["thing", "least", "most"] [D.int i, D.int a, D.int b] = [some (.int i), some (.int a), some (.int b)] from rfl]
  simp only [TV.wSeq, TV.wIf, TV.wOr, TV.wNot, TV.wAnd, TV.wAndV, TV.wOrV, TV.wNotV, TV.wIfE, TV.wTru, TV.wCB, TV.wCons, TV.wVar, TV.wC, TV.wNil, TV.wTest, TV.wChain, TV.wRet, TV.wRetN, TV.wNext, TV.wSet, TV.wDrop, TV.wFrz, TV.wMut, TV.wDisp, TV.wTup, TV.wOp, TV.wCall, TV.wDget, TV.wDput, TV.wFor, TV.wLc, TV.wiL, TV.wiT, TV.wiS, TV.wiR1, TV.wiR2, TV.wiEnumS, TV.wiEnum, TV.wgName, TV.wgTup, TV.wgCons, TV.wgNil, TV.wPar, TV.wPar3, TV.wAsg, TV.wUn, TV.wBM, TV.wApp, TV.wSetI, TV.wListC, TV.wSlL, TV.wSlS, TV.wSlT, TV.wNo, TV.wPart, TV.wYes, TV.wRev, TV.wMelt, TV.wNever, TV.wipe0, TV.wDictM, TV.wDictF, TV.wDict0F, TV.wPairs, List.getElem?_cons_zero, List.getElem?_cons_succ, List.set_cons_zero, List.set_cons_succ, Option.some.injEq, exists_eq_left', exists_eq_left, List.cons.injEq, and_true, true_and, TV.D.str.injEq, TV.D.int.injEq, TV.D.bl.injEq, TV.D.lst.injEq, TV.D.tup.injEq, TV.D.obj.injEq, List.map_cons, List.map_nil, TV.cmpD, TV.subD, TV.intD, TV.inSD, TV.ninSD, TV.isND, TV.notND, TV.isBD, TV.divmodC, TV.absC, isiC', TV.len_str, TV.len_lst, TV.len_tup, TV.tru_bl, TV.tru_int, TV.tru_str, TV.tru_lst, TV.tru_tup, TV.add_int, TV.add_str, TV.add_lst, TV.add_tup, TV.mul_int, TV.mul_str, TV.ix_str, TV.ix_lst, TV.ix_tup, TV.count_str, TV.eq_str, TV.ne_str, TV.eq_int, TV.ne_int, TV.eq_lst, TV.ne_lst, TV.sgx, TV.vw_non, TV.vw_bl, TV.vw_int, TV.vw_str, TV.vw_tup, TV.vw_lst, TV.vw_fro, TV.vw_dct, TV.key_str, TV.key_int, false_or, or_false, List.length_nil, TV.ty_non, TV.ty_bl, TV.ty_int, TV.ty_str, TV.ty_tup, TV.ty_lst, TV.ty_dct, TV.tn_str, TV.tn_int, TV.tn_bool, TV.tn_list, TV.tn_tuple, TV.tn_dict, TV.isT, String.reduceBEq, Bool.and_false, Bool.or_false, Bool.false_and, Bool.and_true, Bool.true_or, Bool.or_true, and_assoc, TV.D.ty.injEq, reduceCtorEq, exists_const, exists_and_left, exists_and_right, if_true, if_false, Bool.not_true, Bool.not_false, Bool.false_eq_true, reduceIte, TV.wExt, TV.wPop, TV.wPopAt, TV.wChg, TV.wAny, TV.wAug, TV.wWhile, TV.kgetD, TV.kinD, TV.wLenSet, TV.wLenO, TV.wEqO, TV.wMakeF, TV.wMeth, TV.wFld, TV.wSetF, TV.sumC, TV.minC, TV.maxC, TV.lcmC, TV.isiO, TV.wLc2, TV.wSlT, TV.wIsiT, List.append_nil, TV.wEither, TV.wGet2, TV.wDict1, TV.wDictZip, TV.sumIC, TV.wiZip, TV.wCallL, TV.mulTD]
  refine ⟨rfl, i, rfl, true, rfl, ?_⟩
  rw [if_pos rfl]
  cases e : decide (a ≤ i) with
  | false => rw [e, Bool.false_and] at hk; rw [if_neg (by decide)]; exact hk
  | true => rw [e, Bool.true_and] at hk; rw [if_pos rfl]; exact hk
theorem seq_len {M : MS} {d : D} {xs : List D} {q : D → Prop} (h : view M d = .lst xs ∨ d = .tup xs) (hq : q (.int xs.length)) : lenC M [d] q := by
  rcases h with e | e
  · exact ⟨d, rfl, by rw [e]; exact hq⟩
  · subst e
    exact len_tup.mpr hq
def sp_are_many : DSp := fun ds M _ k => ds.length = 3 ∧ ∃ d xs a b, ds = [d, .int a, .int b] ∧ (view M d = .lst xs ∨ d = .tup xs) ∧ k (.bl (decide (a ≤ (xs.length : Int)) && decide ((xs.length : Int) ≤ b))) M
theorem ok_are_many (T : Tx w K mg) : FnG P w K mg base CX0 1 T.f_are_many T.e_are_many ["thing", "least", "most"] (rSp K sp_are_many) := by
  refine fnT T.d_are_many.fn sc_are_many (fun ds M x k h => h.1) (by decide) (fun cdv A outer s H E rm => ?_) (fun ds M x k h => h)
  refine ⟨_, (yss_one (ys_ret (xe_and (xe_isiT ["list", "tuple"] (by rfl) T.m_isinstance (xv 0) (pa_cons (pe_bltn (v := .ty "list") (by rfl) T.m_list (by decide +kernel) rfl) (pa_cons (pe_bltn (v := .ty "tuple") (by rfl) T.m_tuple (by decide +kernel) rfl) pa_nil)) (fun _ _ _ h => h) (by decide) (by decide)) (xe_one (xe_chain op_le op_le l_cmpD l_cmpD (xv 1) (xe_callB call_lenD' l_lenC (by rfl) T.m_len (by decide +kernel) (xa_cons (xv 0) xa_nil)) (xv 2)))))), ?_⟩
  intro ds M k h
  obtain ⟨-, d, xs, a, b, rfl, hv, hk⟩ := h
  rw [show start0 ["thing", "least", "most"] [d, D.int a, D.int b] = [some d, some (.int a), some (.int b)] from rfl]
  simp only [TV.wSeq, TV.wIf, TV.wOr, TV.wNot, TV.wAnd, TV.wAndV, TV.wOrV, TV.wNotV, TV.wIfE, TV.wTru, TV.wCB, TV.wCons, TV.wVar, TV.wC, TV.wNil, TV.wTest, TV.wChain, TV.wRet, TV.wRetN, TV.wNext, TV.wSet, TV.wDrop, TV.wFrz, TV.wMut, TV.wDisp, TV.wTup, TV.wOp, TV.wCall, TV.wDget, TV.wDput, TV.wFor, TV.wLc, TV.wiL, TV.wiT, TV.wiS, TV.wiR1, TV.wiR2, TV.wiEnumS, TV.wiEnum, TV.wgName, TV.wgTup, TV.wgCons, TV.wgNil, TV.wPar, TV.wPar3, TV.wAsg, TV.wUn, TV.wBM, TV.wApp, TV.wSetI, TV.wListC, TV.wSlL, TV.wSlS, TV.wSlT, TV.wNo, TV.wPart, TV.wYes, TV.wRev, TV.wMelt, TV.wNever, TV.wipe0, TV.wDictM, TV.wDictF, TV.wDict0F, TV.wPairs, List.getElem?_cons_zero, List.getElem?_cons_succ, List.set_cons_zero, List.set_cons_succ, Option.some.injEq, exists_eq_left', exists_eq_left, List.cons.injEq, and_true, true_and, TV.D.str.injEq, TV.D.int.injEq, TV.D.bl.injEq, TV.D.lst.injEq, TV.D.tup.injEq, TV.D.obj.injEq, List.map_cons, List.map_nil, TV.cmpD, TV.subD, TV.intD, TV.inSD, TV.ninSD, TV.isND, TV.notND, TV.isBD, TV.divmodC, TV.absC, isiC', TV.len_str, TV.len_lst, TV.len_tup, TV.tru_bl, TV.tru_int, TV.tru_str, TV.tru_lst, TV.tru_tup, TV.add_int, TV.add_str, TV.add_lst, TV.add_tup, TV.mul_int, TV.mul_str, TV.ix_str, TV.ix_lst, TV.ix_tup, TV.count_str, TV.eq_str, TV.ne_str, TV.eq_int, TV.ne_int, TV.eq_lst, TV.ne_lst, TV.sgx, TV.vw_non, TV.vw_bl, TV.vw_int, TV.vw_str, TV.vw_tup, TV.vw_lst, TV.vw_fro, TV.vw_dct, TV.key_str, TV.key_int, false_or, or_false, List.length_nil, TV.ty_non, TV.ty_bl, TV.ty_int, TV.ty_str, TV.ty_tup, TV.ty_lst, TV.ty_dct, TV.tn_str, TV.tn_int, TV.tn_bool, TV.tn_list, TV.tn_tuple, TV.tn_dict, TV.isT, String.reduceBEq, Bool.and_false, Bool.or_false, Bool.false_and, Bool.and_true, Bool.true_or, Bool.or_true, and_assoc, TV.D.ty.injEq, reduceCtorEq, exists_const, exists_and_left, exists_and_right, if_true, if_false, Bool.not_true, Bool.not_false, Bool.false_eq_true, reduceIte, TV.wExt, TV.wPop, TV.wPopAt, TV.wChg, TV.wAny, TV.wAug, TV.wWhile, TV.kgetD, TV.kinD, TV.wLenSet, TV.wLenO, TV.wEqO, TV.wMakeF, TV.wMeth, TV.wFld, TV.wSetF, TV.sumC, TV.minC, TV.maxC, TV.lcmC, TV.isiO, TV.wLc2, TV.wSlT, TV.wIsiT, List.append_nil, TV.wEither, TV.wGet2, TV.wDict1, TV.wDictZip, TV.sumIC, TV.wiZip, TV.wCallL, TV.mulTD]
  have hl : ∀ q : D → Prop, q (.int xs.length) → lenC M [d] q := fun q hq => seq_len hv hq
  have ht : ∃ t, tyD (view M d) = some t ∧ ["list", "tuple"].any (isT t) = true := by
    rcases hv with e | e
    · exact ⟨"list", by rw [e]; rfl, by decide⟩
    · exact ⟨"tuple", by rw [e]; rfl, by decide⟩
  obtain ⟨t, e1, e2⟩ := ht
  refine ⟨t, e1, ?_⟩
  rw [if_pos e2]
  refine hl _ ⟨_, rfl, ?_⟩
  cases e : decide (a ≤ (xs.length : Int)) with
  | false => rw [e, Bool.false_and] at hk; exact hk
  | true => rw [e, Bool.true_and] at hk; exact ⟨_, rfl, hk⟩
def okInl (p : Str × Str) : Prop := okName p.1 ∧ okRh p.2
def sp_is_inlet : DSp := fun ds M _ k => ds.length = 1 ∧ ∃ p, ds = [ilD p] ∧ okInl p ∧ k (.bl true) M
theorem ok_is_inlet (T : Tx w K mg) : FnG P w K mg base CX0 3 T.f_is_inlet T.e_is_inlet ["thing"] (rSp K sp_is_inlet) := by
  refine fnT T.d_is_inlet.fn sc_is_inlet (fun ds M x k h => h.1) (by decide) (fun cdv A outer s H E rm => ?_) (fun ds M x k h => h)
  refine ⟨_, (yss_one (ys_ret (xe_and (xe_callB call_isi l_isi (by rfl) T.m_isinstance (by decide +kernel) (xa_cons (xv 0) (xa_cons (xbltn (v := .ty "tuple") (fun _ => .ty) (by rfl) T.m_tuple (by decide +kernel) rfl) xa_nil))) (xe_and (xe_cmp (op_eqE rm.u64) l_eqE (xe_callB call_lenD' l_lenC (by rfl) T.m_len (by decide +kernel) (xa_cons (xv 0) xa_nil)) xint (nomark _)) (xe_and (xcall (ok_is_name T) (rm.mono (by decide)) (by rfl) T.d_is_name.gl T.d_is_name.fn.kp T.d_is_name.bi pass0 (xa_cons (xe_ix (xv 0) xint (fun _ _ => rfl)) xa_nil)) (xe_one (xcall (ok_is_rhythm T) (rm.mono (by decide)) (by rfl) T.d_is_rhythm.gl T.d_is_rhythm.fn.kp T.d_is_rhythm.bi pass0 (xa_cons (xe_ix (xv 0) xint (fun _ _ => rfl)) xa_nil)))))))), ?_⟩
  intro ds M k h
  obtain ⟨-, p, rfl, hp, hk⟩ := h
  rw [show start0 ["thing"] [ilD p] = [some (ilD p)] from rfl]
  simp only [TV.wSeq, TV.wIf, TV.wOr, TV.wNot, TV.wAnd, TV.wAndV, TV.wOrV, TV.wNotV, TV.wIfE, TV.wTru, TV.wCB, TV.wCons, TV.wVar, TV.wC, TV.wNil, TV.wTest, TV.wChain, TV.wRet, TV.wRetN, TV.wNext, TV.wSet, TV.wDrop, TV.wFrz, TV.wMut, TV.wDisp, TV.wTup, TV.wOp, TV.wCall, TV.wDget, TV.wDput, TV.wFor, TV.wLc, TV.wiL, TV.wiT, TV.wiS, TV.wiR1, TV.wiR2, TV.wiEnumS, TV.wiEnum, TV.wgName, TV.wgTup, TV.wgCons, TV.wgNil, TV.wPar, TV.wPar3, TV.wAsg, TV.wUn, TV.wBM, TV.wApp, TV.wSetI, TV.wListC, TV.wSlL, TV.wSlS, TV.wSlT, TV.wNo, TV.wPart, TV.wYes, TV.wRev, TV.wMelt, TV.wNever, TV.wipe0, TV.wDictM, TV.wDictF, TV.wDict0F, TV.wPairs, List.getElem?_cons_zero, List.getElem?_cons_succ, List.set_cons_zero, List.set_cons_succ, Option.some.injEq, exists_eq_left', exists_eq_left, List.cons.injEq, and_true, true_and, TV.D.str.injEq, TV.D.int.injEq, TV.D.bl.injEq, TV.D.lst.injEq, TV.D.tup.injEq, TV.D.obj.injEq, List.map_cons, List.map_nil, TV.cmpD, TV.subD, TV.intD, TV.inSD, TV.ninSD, TV.isND, TV.notND, TV.isBD, TV.divmodC, TV.absC, isiC', TV.len_str, TV.len_lst, TV.len_tup, TV.tru_bl, TV.tru_int, TV.tru_str, TV.tru_lst, TV.tru_tup, TV.add_int, TV.add_str, TV.add_lst, TV.add_tup, TV.mul_int, TV.mul_str, TV.ix_str, TV.ix_lst, TV.ix_tup, TV.count_str, TV.eq_str, TV.ne_str, TV.eq_int, TV.ne_int, TV.eq_lst, TV.ne_lst, TV.sgx, TV.vw_non, TV.vw_bl, TV.vw_int, TV.vw_str, TV.vw_tup, TV.vw_lst, TV.vw_fro, TV.vw_dct, TV.key_str, TV.key_int, false_or, or_false, List.length_nil, TV.ty_non, TV.ty_bl, TV.ty_int, TV.ty_str, TV.ty_tup, TV.ty_lst, TV.ty_dct, TV.tn_str, TV.tn_int, TV.tn_bool, TV.tn_list, TV.tn_tuple, TV.tn_dict, TV.isT, String.reduceBEq, Bool.and_false, Bool.or_false, Bool.false_and, Bool.and_true, Bool.true_or, Bool.or_true, and_assoc, TV.D.ty.injEq, reduceCtorEq, exists_const, exists_and_left, exists_and_right, if_true, if_false, Bool.not_true, Bool.not_false, Bool.false_eq_true, reduceIte, TV.wExt, TV.wPop, TV.wPopAt, TV.wChg, TV.wAny, TV.wAug, TV.wWhile, TV.kgetD, TV.kinD, TV.wLenSet, TV.wLenO, TV.wEqO, TV.wMakeF, TV.wMeth, TV.wFld, TV.wSetF, TV.sumC, TV.minC, TV.maxC, TV.lcmC, TV.isiO, TV.wLc2, TV.wSlT, TV.wIsiT, List.append_nil, TV.wEither, TV.wGet2, TV.wDict1, TV.wDictZip, TV.sumIC, TV.wiZip, TV.wCallL, TV.mulTD]
  refine ⟨"tuple", rfl, ?_⟩
  rw [if_pos (by decide)]
  refine len_tup.mpr ⟨true, rfl, ?_⟩
  rw [if_pos rfl]
  refine ix_tup.mpr ⟨_, at0, rfl, _, rfl, sane_str (by have := hp.1.2.1; omega), _, rfl, ?_⟩
  rw [nm_ok hp.1, if_pos rfl]
  refine ix_tup.mpr ⟨_, rfl, rfl, _, rfl, sane_str (by have := hp.2.2.1; omega), ?_⟩
  rw [rh_ok hp.2]
  exact hk
def sp__is_told : DSp := fun ds M _ k => ds.length = 2 ∧ ∃ g : Gt, ds = [.str g.word, .tup g.told] ∧ g.okc ∧ k (.bl true) M
theorem ok__is_told (T : Tx w K mg) : FnG P w K mg base CX0 3 T.f__is_told T.e__is_told ["word", "told"] (rSp K sp__is_told) := by
  refine fnT T.d__is_told.fn sc__is_told (fun ds M x k h => h.1) (by decide) (fun cdv A outer s H E rm => ?_) (fun ds M x k h => h)
  refine ⟨_, (yss_cons (ys_if (xt_cmp (op_eqE rm.u64) l_eqE (xv 0) xstr (nomark _)) (yss_one (ys_ret (xe_cmp (op_eqE rm.u64) l_eqE (xe_callB call_lenD' l_lenC (by rfl) T.m_len (by decide +kernel) (xa_cons (xv 1) xa_nil)) xint (nomark _)))) yss_nil)
      (yss_cons (ys_if (xt_cmp (op_eqE rm.u64) l_eqE (xv 0) xstr (nomark _)) (yss_one (ys_ret (xe_and (xe_cmp (op_eqE rm.u64) l_eqE (xe_callB call_lenD' l_lenC (by rfl) T.m_len (by decide +kernel) (xa_cons (xv 1) xa_nil)) xint (nomark _)) (xe_one (xcall (ok_is_made_of T) (rm.mono (by decide)) (by rfl) T.d_is_made_of.gl T.d_is_made_of.fn.kp T.d_is_made_of.bi pass0 (xa_cons (xe_ix (xv 1) xint (fun _ _ => rfl)) (xa_cons xstr (xa_cons (xglob (v := .int 6) (fun _ => .int) (by rfl) T.c_LONGEST_TEXT ⟨_, rfl⟩) xa_nil)))))))) yss_nil)
      (yss_cons (ys_if (xt_cmp (op_eqE rm.u64) l_eqE (xv 0) xstr (nomark _)) (yss_one (ys_ret (xe_and (xe_cmp (op_eqE rm.u64) l_eqE (xe_callB call_lenD' l_lenC (by rfl) T.m_len (by decide +kernel) (xa_cons (xv 1) xa_nil)) xint (nomark _)) (xe_and (xcall (ok_is_whole T) (rm.mono (by decide)) (by rfl) T.d_is_whole.gl T.d_is_whole.fn.kp T.d_is_whole.bi pass0 (xa_cons (xe_ix (xv 1) xint (fun _ _ => rfl)) (xa_cons xint (xa_cons (xglob (v := .int 12) (fun _ => .int) (by rfl) T.c_MOST_KEPT ⟨_, rfl⟩) xa_nil)))) (xe_one (xcall (ok_is_whole T) (rm.mono (by decide)) (by rfl) T.d_is_whole.gl T.d_is_whole.fn.kp T.d_is_whole.bi pass0 (xa_cons (xe_ix (xv 1) xint (fun _ _ => rfl)) (xa_cons xint (xa_cons (xe_ix (xv 1) xint (fun _ _ => rfl)) xa_nil))))))))) yss_nil)
      (yss_cons (ys_set (i := 2) sc__is_told.nd rfl (by first | exact Or.inl rfl | exact Or.inr rfl) (xe_if (xt_cmp (op_eqE rm.u64) l_eqE (xv 0) xstr (nomark _)) xint xint))
      (yss_one (ys_ret (xe_and (xe_cmp (op_eqE rm.u64) l_eqE (xe_callB call_lenD' l_lenC (by rfl) T.m_len (by decide +kernel) (xa_cons (xv 1) xa_nil)) xint (nomark _)) (xe_one (xcall (ok_is_whole T) (rm.mono (by decide)) (by rfl) T.d_is_whole.gl T.d_is_whole.fn.kp T.d_is_whole.bi pass0 (xa_cons (xe_ix (xv 1) xint (fun _ _ => rfl)) (xa_cons (xv 2) (xa_cons (xglob (v := .int 12) (fun _ => .int) (by rfl) T.c_MOST_KEPT ⟨_, rfl⟩) xa_nil)))))))))))), ?_⟩
  intro ds M k h
  obtain ⟨-, g, rfl, hg, hk⟩ := h
  rw [show start0 ["word", "told", "least"] [D.str g.word, D.tup g.told] = [some (.str g.word), some (.tup g.told), none] from rfl]
  simp only [TV.wSeq, TV.wIf, TV.wOr, TV.wNot, TV.wAnd, TV.wAndV, TV.wOrV, TV.wNotV, TV.wIfE, TV.wTru, TV.wCB, TV.wCons, TV.wVar, TV.wC, TV.wNil, TV.wTest, TV.wChain, TV.wRet, TV.wRetN, TV.wNext, TV.wSet, TV.wDrop, TV.wFrz, TV.wMut, TV.wDisp, TV.wTup, TV.wOp, TV.wCall, TV.wDget, TV.wDput, TV.wFor, TV.wLc, TV.wiL, TV.wiT, TV.wiS, TV.wiR1, TV.wiR2, TV.wiEnumS, TV.wiEnum, TV.wgName, TV.wgTup, TV.wgCons, TV.wgNil, TV.wPar, TV.wPar3, TV.wAsg, TV.wUn, TV.wBM, TV.wApp, TV.wSetI, TV.wListC, TV.wSlL, TV.wSlS, TV.wSlT, TV.wNo, TV.wPart, TV.wYes, TV.wRev, TV.wMelt, TV.wNever, TV.wipe0, TV.wDictM, TV.wDictF, TV.wDict0F, TV.wPairs, List.getElem?_cons_zero, List.getElem?_cons_succ, List.set_cons_zero, List.set_cons_succ, Option.some.injEq, exists_eq_left', exists_eq_left, List.cons.injEq, and_true, true_and, TV.D.str.injEq, TV.D.int.injEq, TV.D.bl.injEq, TV.D.lst.injEq, TV.D.tup.injEq, TV.D.obj.injEq, List.map_cons, List.map_nil, TV.cmpD, TV.subD, TV.intD, TV.inSD, TV.ninSD, TV.isND, TV.notND, TV.isBD, TV.divmodC, TV.absC, isiC', TV.len_str, TV.len_lst, TV.len_tup, TV.tru_bl, TV.tru_int, TV.tru_str, TV.tru_lst, TV.tru_tup, TV.add_int, TV.add_str, TV.add_lst, TV.add_tup, TV.mul_int, TV.mul_str, TV.ix_str, TV.ix_lst, TV.ix_tup, TV.count_str, TV.eq_str, TV.ne_str, TV.eq_int, TV.ne_int, TV.eq_lst, TV.ne_lst, TV.sgx, TV.vw_non, TV.vw_bl, TV.vw_int, TV.vw_str, TV.vw_tup, TV.vw_lst, TV.vw_fro, TV.vw_dct, TV.key_str, TV.key_int, false_or, or_false, List.length_nil, TV.ty_non, TV.ty_bl, TV.ty_int, TV.ty_str, TV.ty_tup, TV.ty_lst, TV.ty_dct, TV.tn_str, TV.tn_int, TV.tn_bool, TV.tn_list, TV.tn_tuple, TV.tn_dict, TV.isT, String.reduceBEq, Bool.and_false, Bool.or_false, Bool.false_and, Bool.and_true, Bool.true_or, Bool.or_true, and_assoc, TV.D.ty.injEq, reduceCtorEq, exists_const, exists_and_left, exists_and_right, if_true, if_false, Bool.not_true, Bool.not_false, Bool.false_eq_true, reduceIte, TV.wExt, TV.wPop, TV.wPopAt, TV.wChg, TV.wAny, TV.wAug, TV.wWhile, TV.kgetD, TV.kinD, TV.wLenSet, TV.wLenO, TV.wEqO, TV.wMakeF, TV.wMeth, TV.wFld, TV.wSetF, TV.sumC, TV.minC, TV.maxC, TV.lcmC, TV.isiO, TV.wLc2, TV.wSlT, TV.wIsiT, List.append_nil, TV.wEither, TV.wGet2, TV.wDict1, TV.wDictZip, TV.sumIC, TV.wiZip, TV.wCallL, TV.mulTD]
  simp only [eq_cross, eq_deal, eq_hold, eq_lag]
  have whole : ∀ {i a b : Int} {k : KD}, a ≤ i → i ≤ b → k (.bl true) M → sp_is_whole [.int i, .int a, .int b] M (fun _ _ _ => False) k := fun h1 h2 h3 =>
    ⟨rfl, _, _, _, rfl, by rw [decide_eq_true h1, decide_eq_true h2]; exact h3⟩
  cases g with
  | cross => exact hk
  | deal l a b t =>
    refine ⟨_, at0, rfl, _, _, _, rfl, sane_str (by have := hg.2.1; omega), ?_⟩
    have e : ("lr" : Str).cps.toList = [108, 114] := by decide +kernel
    rw [made_of hg.1 (by have := hg.2.1; omega) (fun c hc => by rw [e]; rcases hg.2.2 c hc with q | q <;> subst q <;> decide)]
    exact hk
  | hold l o c r =>
    refine ⟨_, at0, whole hg.1 hg.2.1 ⟨true, rfl, ?_⟩⟩
    rw [if_pos rfl]
    exact ⟨_, rfl, _, at0, whole hg.2.2.1 hg.2.2.2 hk⟩
  | wait l o c => exact ⟨_, at0, whole hg.1 hg.2 hk⟩
  | lag l o c => exact ⟨_, at0, whole hg.1 hg.2 hk⟩
  | join a b o c => exact ⟨_, at0, whole hg.1 hg.2 hk⟩
def sp__has_lanes : DSp := fun ds M _ k => ds.length = 1 ∧ ∃ g : Gt, ds = [g.d] ∧ g.ok ∧ k (.bl true) M
theorem ok__has_lanes (T : Tx w K mg) : FnG P w K mg base CX0 3 T.f__has_lanes T.e__has_lanes ["thing"] (rSp K sp__has_lanes) := by
  refine fnT T.d__has_lanes.fn sc__has_lanes (fun ds M x k h => h.1) (by decide) (fun cdv A outer s H E rm => ?_) (fun ds M x k h => h)
  refine ⟨_, (yss_cons (ys_set (i := 1) sc__has_lanes.nd rfl (by first | exact Or.inl rfl | exact Or.inr rfl) (xe_op op_addD l_addD (xcall (ok_taken_by T) (rm.mono (by decide)) (by rfl) T.d_taken_by.gl T.d_taken_by.fn.kp T.d_taken_by.bi pass0 (xa_cons (xv 0) xa_nil)) (xcall (ok_given_by T) (rm.mono (by decide)) (by rfl) T.d_given_by.gl T.d_given_by.fn.kp T.d_given_by.bi pass0 (xa_cons (xv 0) xa_nil))))
      (yss_cons (ys_if (PW.pt (xw_or (xt_cmp op_lt l_cmpD (xe_callB call_lenD' l_lenC (by rfl) T.m_len (by decide +kernel) (xa_cons (xv 1) xa_nil)) (xe_op op_addD l_addD (xe_kget T.c_TAKEN (xglob (v := .ref T.x_TAKEN) (fun _ => .obj) (by rfl) T.k_TAKEN rfl) (xe_ix (xv 0) xint (fun _ _ => rfl)) (fun _ _ => rfl)) (xe_kget T.c_GIVEN (xglob (v := .ref T.x_GIVEN) (fun _ => .obj) (by rfl) T.k_GIVEN rfl) (xe_ix (xv 0) xint (fun _ _ => rfl)) (fun _ _ => rfl))) (nomark _)) (xw_or1 (xt_not (xt_tru (xe_callB (cr_all rfl) l_allC (by rfl) T.m_all (by decide +kernel) (xa_cons (xl_frz (xl_lc (own := [("lane", 2)]) (g := gName 2) rfl sc__has_lanes.nd (xi_tup (xv 1)) (blkOk_by (N := ["thing", "lanes", "lane"]) (sc := defScope s__has_lanes) (by decide +kernel)) (tg_name (by decide)) (fun _ _ _ _ _ => pg_name (i := 2) sc__has_lanes.nd rfl (by first | exact Or.inl rfl | exact Or.inr rfl)) (fun _ _ _ _ _ => xts_nil) (fun _ _ _ _ _ => (xcall (ok_is_name T) (rm.mono (by decide)) (by rfl) T.d_is_name.gl T.d_is_name.fn.kp T.d_is_name.bi pass0 (xa_cons (xv 2) xa_nil))))) xa_nil))))))) (yss_one (ys_ret xbl)) yss_nil)
      (yss_one (ys_ret (xe_cmp (op_eqE rm.u64) l_eqE (xe_lenSet rfl (by rfl) T.m_len (by rfl) T.m_set (xv 1)) (xe_callB call_lenD' l_lenC (by rfl) T.m_len (by decide +kernel) (xa_cons (xv 1) xa_nil)) (nomark _)))))), ?_⟩
  intro ds M k h
  obtain ⟨-, g, rfl, hg, hk⟩ := h
  rw [show start0 ["thing", "lanes", "lane"] [g.d] = [some g.d, none, none] from rfl]
  simp only [TV.wSeq, TV.wIf, TV.wOr, TV.wNot, TV.wAnd, TV.wAndV, TV.wOrV, TV.wNotV, TV.wIfE, TV.wTru, TV.wCB, TV.wCons, TV.wVar, TV.wC, TV.wNil, TV.wTest, TV.wChain, TV.wRet, TV.wRetN, TV.wNext, TV.wSet, TV.wDrop, TV.wFrz, TV.wMut, TV.wDisp, TV.wTup, TV.wOp, TV.wCall, TV.wDget, TV.wDput, TV.wFor, TV.wLc, TV.wiL, TV.wiT, TV.wiS, TV.wiR1, TV.wiR2, TV.wiEnumS, TV.wiEnum, TV.wgName, TV.wgTup, TV.wgCons, TV.wgNil, TV.wPar, TV.wPar3, TV.wAsg, TV.wUn, TV.wBM, TV.wApp, TV.wSetI, TV.wListC, TV.wSlL, TV.wSlS, TV.wSlT, TV.wNo, TV.wPart, TV.wYes, TV.wRev, TV.wMelt, TV.wNever, TV.wipe0, TV.wDictM, TV.wDictF, TV.wDict0F, TV.wPairs, List.getElem?_cons_zero, List.getElem?_cons_succ, List.set_cons_zero, List.set_cons_succ, Option.some.injEq, exists_eq_left', exists_eq_left, List.cons.injEq, and_true, true_and, TV.D.str.injEq, TV.D.int.injEq, TV.D.bl.injEq, TV.D.lst.injEq, TV.D.tup.injEq, TV.D.obj.injEq, List.map_cons, List.map_nil, TV.cmpD, TV.subD, TV.intD, TV.inSD, TV.ninSD, TV.isND, TV.notND, TV.isBD, TV.divmodC, TV.absC, isiC', TV.len_str, TV.len_lst, TV.len_tup, TV.tru_bl, TV.tru_int, TV.tru_str, TV.tru_lst, TV.tru_tup, TV.add_int, TV.add_str, TV.add_lst, TV.add_tup, TV.mul_int, TV.mul_str, TV.ix_str, TV.ix_lst, TV.ix_tup, TV.count_str, TV.eq_str, TV.ne_str, TV.eq_int, TV.ne_int, TV.eq_lst, TV.ne_lst, TV.sgx, TV.vw_non, TV.vw_bl, TV.vw_int, TV.vw_str, TV.vw_tup, TV.vw_lst, TV.vw_fro, TV.vw_dct, TV.key_str, TV.key_int, false_or, or_false, List.length_nil, TV.ty_non, TV.ty_bl, TV.ty_int, TV.ty_str, TV.ty_tup, TV.ty_lst, TV.ty_dct, TV.tn_str, TV.tn_int, TV.tn_bool, TV.tn_list, TV.tn_tuple, TV.tn_dict, TV.isT, String.reduceBEq, Bool.and_false, Bool.or_false, Bool.false_and, Bool.and_true, Bool.true_or, Bool.or_true, and_assoc, TV.D.ty.injEq, reduceCtorEq, exists_const, exists_and_left, exists_and_right, if_true, if_false, Bool.not_true, Bool.not_false, Bool.false_eq_true, reduceIte, TV.wExt, TV.wPop, TV.wPopAt, TV.wChg, TV.wAny, TV.wAug, TV.wWhile, TV.kgetD, TV.kinD, TV.wLenSet, TV.wLenO, TV.wEqO, TV.wMakeF, TV.wMeth, TV.wFld, TV.wSetF, TV.sumC, TV.minC, TV.maxC, TV.lcmC, TV.isiO, TV.wLc2, TV.wSlT, TV.wIsiT, List.append_nil, TV.wEither, TV.wGet2, TV.wDict1, TV.wDictZip, TV.sumIC, TV.wiZip, TV.wCallL, TV.mulTD]
  have few : (g.tk ++ g.gv).length ≤ 4 := by cases g <;> (simp [Gt.tk, Gt.gv])
  have cnt : ((g.tk ++ g.gv).length : Int) = ntk g + ngv g := by rw [List.length_append]; unfold ntk ngv; omega
  refine ⟨rfl, g, rfl, rfl, g, rfl, ?_⟩
  dsimp only
  rw [add_tup, ← List.map_append]
  refine ⟨by rw [List.length_map, List.length_map]; rw [List.length_append] at few; omega, len_tup.mpr ?_⟩
  rw [List.length_map]
  refine ixw ⟨_, rfl, _, tk_tab g, ixw ⟨_, rfl, _, gv_tab g, _, rfl, ?_⟩⟩
  rw [if_neg (by rw [cnt]; simp)]
  refine ⟨_, rfl, by rw [List.length_map]; omega, fun i acc M' => M' = M ∧ acc = List.replicate i (D.bl true), ⟨rfl, rfl⟩, fun i d acc M' hi ⟨hM, ha⟩ => ?_, fun acc M' ⟨hM, ha⟩ => ?_⟩
  · subst hM ha
    rw [List.getElem?_map] at hi
    cases e : (g.tk ++ g.gv)[i]? with
    | none => rw [e] at hi; cases hi
    | some x =>
      rw [e] at hi
      cases hi
      have hx := hg.1 x (List.mem_of_getElem? e)
      refine ⟨rfl, _, rfl, sane_str (by have := hx.2.1; omega), rfl, ?_⟩
      rw [nm_ok hx, List.replicate_succ']
  · subst hM ha
    refine ⟨_, List.replicate _ true, rfl, by rw [List.map_replicate]; rfl, ?_⟩
    dsimp only
    rw [tru_bl, if_neg (by simp)]
    refine ⟨_, rfl, hg.2.1, by omega, len_tup.mpr ?_⟩
    rw [List.length_map, TV.eq_int, decide_eq_true rfl]
    exact hk
def sp_is_gate : DSp := fun ds M _ k => ds.length = 1 ∧ ∃ g : Gt, ds = [g.d] ∧ g.ok ∧ k (.bl true) M
theorem ok_is_gate (T : Tx w K mg) : FnG P w K mg base CX0 4 T.f_is_gate T.e_is_gate ["thing"] (rSp K sp_is_gate) := by
  refine fnT T.d_is_gate.fn sc_is_gate (fun ds M x k h => h.1) (by decide) (fun cdv A outer s H E rm => ?_) (fun ds M x k h => h)
  refine ⟨_, (yss_cons (ys_if (PW.pt (xw_or (xt_not (xt_tru (xe_callB call_isi l_isi (by rfl) T.m_isinstance (by decide +kernel) (xa_cons (xv 0) (xa_cons (xbltn (v := .ty "tuple") (fun _ => .ty) (by rfl) T.m_tuple (by decide +kernel) rfl) xa_nil))))) (xw_or1 (xt_cmp (op_eqE rm.u64) l_eqE (xe_callB call_lenD' l_lenC (by rfl) T.m_len (by decide +kernel) (xa_cons (xv 0) xa_nil)) xint (nomark _))))) (yss_one (ys_ret xbl)) yss_nil)
      (yss_cons (ys_if (PW.pt (xw_or (xt_not (xt_tru (xe_callB call_isi l_isi (by rfl) T.m_isinstance (by decide +kernel) (xa_cons (xe_ix (xv 0) xint (fun _ _ => rfl)) (xa_cons (xbltn (v := .ty "str") (fun _ => .ty) (by rfl) T.m_str (by decide +kernel) rfl) xa_nil))))) (xw_or1 (xt_kinN T.c_TAKEN (xe_ix (xv 0) xint (fun _ _ => rfl)) (xglob (v := .ref T.x_TAKEN) (fun _ => .obj) (by rfl) T.k_TAKEN rfl))))) (yss_one (ys_ret xbl)) yss_nil)
      (yss_one (ys_ret (xe_and (xcall (ok__has_lanes T) (rm.mono (by decide)) (by rfl) T.d__has_lanes.gl T.d__has_lanes.fn.kp T.d__has_lanes.bi pass0 (xa_cons (xv 0) xa_nil)) (xe_one (xcall (ok__is_told T) (rm.mono (by decide)) (by rfl) T.d__is_told.gl T.d__is_told.fn.kp T.d__is_told.bi pass0 (xa_cons (xe_ix (xv 0) xint (fun _ _ => rfl)) (xa_cons (xcall (ok_told_of T) (rm.mono (by decide)) (by rfl) T.d_told_of.gl T.d_told_of.fn.kp T.d_told_of.bi pass0 (xa_cons (xv 0) xa_nil)) xa_nil))))))))), ?_⟩
  intro ds M k h
  obtain ⟨-, g, rfl, hg, hk⟩ := h
  rw [show start0 ["thing"] [g.d] = [some g.d] from rfl]
  simp only [TV.wSeq, TV.wIf, TV.wOr, TV.wNot, TV.wAnd, TV.wAndV, TV.wOrV, TV.wNotV, TV.wIfE, TV.wTru, TV.wCB, TV.wCons, TV.wVar, TV.wC, TV.wNil, TV.wTest, TV.wChain, TV.wRet, TV.wRetN, TV.wNext, TV.wSet, TV.wDrop, TV.wFrz, TV.wMut, TV.wDisp, TV.wTup, TV.wOp, TV.wCall, TV.wDget, TV.wDput, TV.wFor, TV.wLc, TV.wiL, TV.wiT, TV.wiS, TV.wiR1, TV.wiR2, TV.wiEnumS, TV.wiEnum, TV.wgName, TV.wgTup, TV.wgCons, TV.wgNil, TV.wPar, TV.wPar3, TV.wAsg, TV.wUn, TV.wBM, TV.wApp, TV.wSetI, TV.wListC, TV.wSlL, TV.wSlS, TV.wSlT, TV.wNo, TV.wPart, TV.wYes, TV.wRev, TV.wMelt, TV.wNever, TV.wipe0, TV.wDictM, TV.wDictF, TV.wDict0F, TV.wPairs, List.getElem?_cons_zero, List.getElem?_cons_succ, List.set_cons_zero, List.set_cons_succ, Option.some.injEq, exists_eq_left', exists_eq_left, List.cons.injEq, and_true, true_and, TV.D.str.injEq, TV.D.int.injEq, TV.D.bl.injEq, TV.D.lst.injEq, TV.D.tup.injEq, TV.D.obj.injEq, List.map_cons, List.map_nil, TV.cmpD, TV.subD, TV.intD, TV.inSD, TV.ninSD, TV.isND, TV.notND, TV.isBD, TV.divmodC, TV.absC, isiC', TV.len_str, TV.len_lst, TV.len_tup, TV.tru_bl, TV.tru_int, TV.tru_str, TV.tru_lst, TV.tru_tup, TV.add_int, TV.add_str, TV.add_lst, TV.add_tup, TV.mul_int, TV.mul_str, TV.ix_str, TV.ix_lst, TV.ix_tup, TV.count_str, TV.eq_str, TV.ne_str, TV.eq_int, TV.ne_int, TV.eq_lst, TV.ne_lst, TV.sgx, TV.vw_non, TV.vw_bl, TV.vw_int, TV.vw_str, TV.vw_tup, TV.vw_lst, TV.vw_fro, TV.vw_dct, TV.key_str, TV.key_int, false_or, or_false, List.length_nil, TV.ty_non, TV.ty_bl, TV.ty_int, TV.ty_str, TV.ty_tup, TV.ty_lst, TV.ty_dct, TV.tn_str, TV.tn_int, TV.tn_bool, TV.tn_list, TV.tn_tuple, TV.tn_dict, TV.isT, String.reduceBEq, Bool.and_false, Bool.or_false, Bool.false_and, Bool.and_true, Bool.true_or, Bool.or_true, and_assoc, TV.D.ty.injEq, reduceCtorEq, exists_const, exists_and_left, exists_and_right, if_true, if_false, Bool.not_true, Bool.not_false, Bool.false_eq_true, reduceIte, TV.wExt, TV.wPop, TV.wPopAt, TV.wChg, TV.wAny, TV.wAug, TV.wWhile, TV.kgetD, TV.kinD, TV.wLenSet, TV.wLenO, TV.wEqO, TV.wMakeF, TV.wMeth, TV.wFld, TV.wSetF, TV.sumC, TV.minC, TV.maxC, TV.lcmC, TV.isiO, TV.wLc2, TV.wSlT, TV.wIsiT, List.append_nil, TV.wEither, TV.wGet2, TV.wDict1, TV.wDictZip, TV.sumIC, TV.wiZip, TV.wCallL, TV.mulTD]
  refine ⟨"tuple", rfl, ?_⟩
  rw [if_neg (by decide)]
  refine len_tup.mpr ?_
  refine ⟨_, rfl, ?_⟩
  rw [if_neg (by rw [decide_eq_true_eq]; show ¬ (((g.parts.length : Nat) : Int) = 0); have : 0 < g.parts.length := Nat.succ_pos _; omega)]
  refine ixw ⟨"str", rfl, ?_⟩
  rw [if_neg (by decide)]
  refine ixw ⟨_, rfl, ⟨_, tk_tab g⟩, rfl, g, rfl, hg, true, rfl, ?_⟩
  rw [if_pos rfl]
  exact ixw ⟨rfl, g, rfl, rfl, g, rfl, hg.2.2, hk⟩
end
end K08

set_option Elab.async false
set_option linter.all false
set_option maxRecDepth 100000
set_option maxHeartbeats 2000000
namespace K08
open PySem PySem.Spec PyProof.Rows L2 TV
section
variable {P : Program} {w : World} {K : PySem.W.Frag} {mg : Str → Option Value} {base : Heap}
def okIns (ins : List (Str × Str)) : Prop := 1 ≤ ins.length ∧ ins.length ≤ 3 ∧ (∀ p ∈ ins, okInl p) ∧ (ins.map Prod.fst).Nodup
theorem view_upd {M : MS} {p : Addr} {m : MO} {d : D} (hp : M p = none) (h : ∀ a, d = .obj a → M a ≠ none) : view (updM M p m) d = view M d := by
  cases d with
  | obj a =>
    have ne : a ≠ p := fun e => h a rfl (by rw [e]; exact hp)
    simp only [view, updM_ne ne]
  | _ => rfl
theorem seq_upd {M : MS} {p : Addr} {m : MO} {d : D} {xs : List D} (h : seqOf M d xs) (hp : M p = none) : seqOf (updM M p m) d xs := by
  rcases h with h | h
  · refine .inl ?_
    rw [view_upd hp fun a e => ?_, h]
    subst e
    intro z
    simp [view, z] at h
  · exact .inr h
theorem pairs_get {xs : List D} {i : Nat} {d : D} (h : (pairsN 0 xs)[i]? = some d) : ∃ e, xs[i]? = some e ∧ d = .tup [.int i, e] := by
  have lt : i < xs.length := by
    have := (List.getElem?_eq_some_iff.mp h).1
    rwa [pairsN_len] at this
  have e1 : xs[i]? = some xs[i] := List.getElem?_eq_getElem lt
  have e2 := pairsN_get 0 xs i _ e1
  rw [h] at e2
  exact ⟨_, e1, by rw [Option.some.inj e2, Nat.zero_add]⟩
theorem map_get {α β : Type} {f : α → β} {xs : List α} {i : Nat} {y : β} (h : (xs.map f)[i]? = some y) : ∃ x, xs[i]? = some x ∧ y = f x := by
  rw [List.getElem?_map] at h
  cases e : xs[i]? with
  | none => rw [e] at h; cases h
  | some x => rw [e] at h; exact ⟨x, rfl, (Option.some.inj h).symm⟩
theorem view_at {M : MS} {p : Addr} {ds : List D} : view (updM M p (.lst ds)) (.obj p) = .lst ds := vw_obj_lst updM_same
theorem fst_new {α β : Type} {l : List (α × β)} {i : Nat} {q : α × β} (nd : (l.map Prod.fst).Nodup) (h : l[i]? = some q) : q.1 ∉ (l.take i).map Prod.fst := fun mem => by
  obtain ⟨r, hr, e⟩ := List.mem_map.mp mem
  obtain ⟨j, hj⟩ := List.mem_iff_getElem?.mp hr
  rw [List.getElem?_take] at hj
  split at hj
  · rename_i lt
    have e1 : (l.map Prod.fst)[j]? = some r.1 := by rw [List.getElem?_map, hj]; rfl
    have e2 : (l.map Prod.fst)[i]? = some q.1 := by rw [List.getElem?_map, h]; rfl
    have li : i < (l.map Prod.fst).length := (List.getElem?_eq_some_iff.mp e2).1
    have := (List.getElem?_inj (by omega) nd).mp (e1.trans (by rw [e2, e]))
    omega
  · cases hj
def sp__check_inlets : DSp := fun ds M _ k => ds.length = 1 ∧ ∃ d ins, ds = [d] ∧ seqOf M d (ins.map ilD) ∧ okIns ins ∧ k .non M
theorem ok__check_inlets (T : Tx w K mg) : FnG P w K mg base CX0 4 T.f__check_inlets T.e__check_inlets ["inlets"] (rSp K sp__check_inlets) := by
  refine fnTW T.d__check_inlets.fn sc__check_inlets (fun ds M x k h => h.1) (by decide) (fun cdv A outer s H E rm => ?_) (fun ds M x k h => h)
  refine ⟨_, (yss_cons (ys_if (xt_not (xt_tru (xcall (ok_are_many T) (rm.mono (by decide)) (by rfl) T.d_are_many.gl T.d_are_many.fn.kp T.d_are_many.bi pass0 (xa_cons (xv 0) (xa_cons xint (xa_cons (xglob (v := .int 3) (fun _ => .int) (by rfl) T.c_MOST_INLETS ⟨_, rfl⟩) xa_nil)))))) (yss_one ys_never) yss_nil)
      (yss_cons (ys_set (i := 1) sc__check_inlets.nd rfl (by first | exact Or.inl rfl | exact Or.inr rfl) (xl_mut (xl_lst xa_nil)))
      (yss_one (ys_for PassesOwn.never rfl (xi_enumB (by rfl) T.m_enumerate (xa_cons (xv 0) xa_nil)) (xg_tup rfl (xgs_cons (xg_name (i := 2) sc__check_inlets.nd rfl (by first | exact Or.inl rfl | exact Or.inr rfl)) (xgs_cons (xg_name (i := 3) sc__check_inlets.nd rfl (by first | exact Or.inl rfl | exact Or.inr rfl)) xgs_nil))) (yss_cons (ys_if (PW.pt (xw_or (xt_not (xt_tru (xcall (ok_is_inlet T) (rm.mono (by decide)) (by rfl) T.d_is_inlet.gl T.d_is_inlet.fn.kp T.d_is_inlet.bi pass0 (xa_cons (xv 3) xa_nil)))) (xw_or1 (xt_cmp op_in_seq l_inD (xe_ix (xv 3) xint (fun _ _ => rfl)) (xv 1) (by rfl))))) (yss_one ys_never) yss_nil)
      (yss_one (ys_expr (xe_append (xv 1) (xe_ix (xv 3) xint (fun _ _ => rfl)))))))))), ?_⟩
  intro ds M k h
  obtain ⟨-, d, ins, rfl, hd, hi, hk⟩ := h
  rw [show start0 ["inlets", "lanes", "at", "inlet"] [d] = [some d, none, none, none] from rfl]
  simp only [TV.wSeq, TV.wIf, TV.wOr, TV.wNot, TV.wAnd, TV.wAndV, TV.wOrV, TV.wNotV, TV.wIfE, TV.wTru, TV.wCB, TV.wCons, TV.wVar, TV.wC, TV.wNil, TV.wTest, TV.wChain, TV.wRet, TV.wRetN, TV.wNext, TV.wSet, TV.wDrop, TV.wFrz, TV.wMut, TV.wDisp, TV.wTup, TV.wOp, TV.wCall, TV.wDget, TV.wDput, TV.wFor, TV.wLc, TV.wiL, TV.wiT, TV.wiS, TV.wiR1, TV.wiR2, TV.wiEnumS, TV.wiEnum, TV.wgName, TV.wgTup, TV.wgCons, TV.wgNil, TV.wPar, TV.wPar3, TV.wAsg, TV.wUn, TV.wBM, TV.wApp, TV.wSetI, TV.wListC, TV.wSlL, TV.wSlS, TV.wSlT, TV.wNo, TV.wPart, TV.wYes, TV.wRev, TV.wMelt, TV.wNever, TV.wipe0, TV.wDictM, TV.wDictF, TV.wDict0F, TV.wPairs, List.getElem?_cons_zero, List.getElem?_cons_succ, List.set_cons_zero, List.set_cons_succ, Option.some.injEq, exists_eq_left', exists_eq_left, List.cons.injEq, and_true, true_and, TV.D.str.injEq, TV.D.int.injEq, TV.D.bl.injEq, TV.D.lst.injEq, TV.D.tup.injEq, TV.D.obj.injEq, List.map_cons, List.map_nil, TV.cmpD, TV.subD, TV.intD, TV.inSD, TV.ninSD, TV.isND, TV.notND, TV.isBD, TV.divmodC, TV.absC, isiC', TV.len_str, TV.len_lst, TV.len_tup, TV.tru_bl, TV.tru_int, TV.tru_str, TV.tru_lst, TV.tru_tup, TV.add_int, TV.add_str, TV.add_lst, TV.add_tup, TV.mul_int, TV.mul_str, TV.ix_str, TV.ix_lst, TV.ix_tup, TV.count_str, TV.eq_str, TV.ne_str, TV.eq_int, TV.ne_int, TV.eq_lst, TV.ne_lst, TV.sgx, TV.vw_non, TV.vw_bl, TV.vw_int, TV.vw_str, TV.vw_tup, TV.vw_lst, TV.vw_fro, TV.vw_dct, TV.key_str, TV.key_int, false_or, or_false, List.length_nil, TV.ty_non, TV.ty_bl, TV.ty_int, TV.ty_str, TV.ty_tup, TV.ty_lst, TV.ty_dct, TV.tn_str, TV.tn_int, TV.tn_bool, TV.tn_list, TV.tn_tuple, TV.tn_dict, TV.isT, String.reduceBEq, Bool.and_false, Bool.or_false, Bool.false_and, Bool.and_true, Bool.true_or, Bool.or_true, and_assoc, TV.D.ty.injEq, reduceCtorEq, exists_const, exists_and_left, exists_and_right, if_true, if_false, Bool.not_true, Bool.not_false, Bool.false_eq_true, reduceIte, TV.wExt, TV.wPop, TV.wPopAt, TV.wChg, TV.wAny, TV.wAug, TV.wWhile, TV.kgetD, TV.kinD, TV.wLenSet, TV.wLenO, TV.wEqO, TV.wMakeF, TV.wMeth, TV.wFld, TV.wSetF, TV.sumC, TV.minC, TV.maxC, TV.lcmC, TV.isiO, TV.wLc2, TV.wSlT, TV.wIsiT, List.append_nil, TV.wEither, TV.wGet2, TV.wDict1, TV.wDictZip, TV.sumIC, TV.wiZip, TV.wCallL, TV.mulTD]
  refine ⟨rfl, d, _, _, _, rfl, hd, ?_⟩
  rw [List.length_map, decide_eq_true (by have := hi.1; omega), decide_eq_true (by have := hi.2.1; omega)]
  dsimp only
  rw [Bool.and_true, tru_bl, if_neg (by decide)]
  refine ⟨by decide, fun p hp => in_enumB rfl (seq_upd hd hp) fun stay hs => ⟨fun i ρ' M' => ∃ dk dt, ρ' = [some d, some (.obj p), dk, dt] ∧ M' = updM M p (.lst (((ins.take i).map Prod.fst).map D.str)), ⟨none, none, rfl, rfl⟩, ?_, ?_⟩⟩
  · rintro i e ρ' M' he ⟨dk, dt, rfl, rfl⟩
    obtain ⟨e', h1, rfl⟩ := pairs_get he
    obtain ⟨q, h2, rfl⟩ := map_get h1
    refine ⟨hs _ (seq_upd hd hp), _, rfl, rfl, _, _, rfl, _, _, rfl, rfl, ?_⟩
    simp only [TV.wSeq, TV.wIf, TV.wOr, TV.wNot, TV.wAnd, TV.wAndV, TV.wOrV, TV.wNotV, TV.wIfE, TV.wTru, TV.wCB, TV.wCons, TV.wVar, TV.wC, TV.wNil, TV.wTest, TV.wChain, TV.wRet, TV.wRetN, TV.wNext, TV.wSet, TV.wDrop, TV.wFrz, TV.wMut, TV.wDisp, TV.wTup, TV.wOp, TV.wCall, TV.wDget, TV.wDput, TV.wFor, TV.wLc, TV.wiL, TV.wiT, TV.wiS, TV.wiR1, TV.wiR2, TV.wiEnumS, TV.wiEnum, TV.wgName, TV.wgTup, TV.wgCons, TV.wgNil, TV.wPar, TV.wPar3, TV.wAsg, TV.wUn, TV.wBM, TV.wApp, TV.wSetI, TV.wListC, TV.wSlL, TV.wSlS, TV.wSlT, TV.wNo, TV.wPart, TV.wYes, TV.wRev, TV.wMelt, TV.wNever, TV.wipe0, TV.wDictM, TV.wDictF, TV.wDict0F, TV.wPairs, List.getElem?_cons_zero, List.getElem?_cons_succ, List.set_cons_zero, List.set_cons_succ, Option.some.injEq, exists_eq_left', exists_eq_left, List.cons.injEq, and_true, true_and, TV.D.str.injEq, TV.D.int.injEq, TV.D.bl.injEq, TV.D.lst.injEq, TV.D.tup.injEq, TV.D.obj.injEq, List.map_cons, List.map_nil, TV.cmpD, TV.subD, TV.intD, TV.inSD, TV.ninSD, TV.isND, TV.notND, TV.isBD, TV.divmodC, TV.absC, isiC', TV.len_str, TV.len_lst, TV.len_tup, TV.tru_bl, TV.tru_int, TV.tru_str, TV.tru_lst, TV.tru_tup, TV.add_int, TV.add_str, TV.add_lst, TV.add_tup, TV.mul_int, TV.mul_str, TV.ix_str, TV.ix_lst, TV.ix_tup, TV.count_str, TV.eq_str, TV.ne_str, TV.eq_int, TV.ne_int, TV.eq_lst, TV.ne_lst, TV.sgx, TV.vw_non, TV.vw_bl, TV.vw_int, TV.vw_str, TV.vw_tup, TV.vw_lst, TV.vw_fro, TV.vw_dct, TV.key_str, TV.key_int, false_or, or_false, List.length_nil, TV.ty_non, TV.ty_bl, TV.ty_int, TV.ty_str, TV.ty_tup, TV.ty_lst, TV.ty_dct, TV.tn_str, TV.tn_int, TV.tn_bool, TV.tn_list, TV.tn_tuple, TV.tn_dict, TV.isT, String.reduceBEq, Bool.and_false, Bool.or_false, Bool.false_and, Bool.and_true, Bool.true_or, Bool.or_true, and_assoc, TV.D.ty.injEq, reduceCtorEq, exists_const, exists_and_left, exists_and_right, if_true, if_false, Bool.not_true, Bool.not_false, Bool.false_eq_true, reduceIte, TV.wExt, TV.wPop, TV.wPopAt, TV.wChg, TV.wAny, TV.wAug, TV.wWhile, TV.kgetD, TV.kinD, TV.wLenSet, TV.wLenO, TV.wEqO, TV.wMakeF, TV.wMeth, TV.wFld, TV.wSetF, TV.sumC, TV.minC, TV.maxC, TV.lcmC, TV.isiO, TV.wLc2, TV.wSlT, TV.wIsiT, List.append_nil, TV.wEither, TV.wGet2, TV.wDict1, TV.wDictZip, TV.sumIC, TV.wiZip, TV.wCallL, TV.mulTD]
    have hq := hi.2.2.1 q (List.mem_of_getElem? h2)
    refine ⟨rfl, q, rfl, hq, ?_⟩
    dsimp only
    rw [tru_bl, if_neg (by decide)]
    have new : q.1 ∉ (ins.take i).map Prod.fst := fst_new hi.2.2.2 h2
    refine ix_tup.mpr ⟨_, at0, in_strsL view_at ⟨_, rfl, ?_⟩⟩
    rw [decide_eq_false new, if_neg (by decide)]
    refine ⟨⟨_, updM_same⟩, ix_tup.mpr ⟨_, at0, _, updM_same, ?_, ?_⟩⟩
    · rw [List.length_map, List.length_map, List.length_take]
      have := hi.2.1
      omega
    · rw [updM_updM, List.take_add_one, h2]
      simp
  · rintro ρ' M' ⟨dk, dt, rfl, rfl⟩
    exact ⟨hs _ (seq_upd hd hp), M, SubM.refl.upd hp, hk⟩
/-! ### gates one behind the other -/
def stepFree (free : List Str) (g : Gt) : List Str := (free.filter fun x => !decide (x ∈ g.tk)) ++ g.gv
def Stands : List Str → List Str → Int → List Gt → Prop
  | _, _, _, [] => True
  | lanes, free, size, g :: r => g.ok ∧ (∀ x ∈ g.tk, x ∈ free) ∧ (∀ x ∈ g.gv, x ∉ lanes) ∧ size + g.sz ≤ 12 ∧ Stands (lanes ++ g.gv) (stepFree free g) (size + g.sz) r
def sp__can_stand : DSp := fun ds M _ k => ds.length = 3 ∧ ∃ (g : Gt) (dl df : D) (lanes free : List Str), ds = [g.d, dl, df] ∧ view M dl = .lst (lanes.map D.str) ∧ view M df = .lst (free.map D.str) ∧ (∀ x ∈ g.tk, x ∈ free) ∧ (∀ x ∈ g.gv, x ∉ lanes) ∧ k (.bl true) M
theorem ok__can_stand (T : Tx w K mg) : FnG P w K mg base CX0 2 T.f__can_stand T.e__can_stand ["gate", "lanes", "free"] (rSp K sp__can_stand) := by
  refine fnT T.d__can_stand.fn sc__can_stand (fun ds M x k h => h.1) (by decide) (fun cdv A outer s H E rm => ?_) (fun ds M x k h => h)
  refine ⟨_, (yss_cons (ys_if (xt_tru (xe_callB (cr_any rfl) l_anyC (by rfl) T.m_any (by decide +kernel) (xa_cons (xl_frz (xl_lc (own := [("lane", 3)]) (g := gName 3) rfl sc__can_stand.nd (xi_tup (xcall (ok_taken_by T) (rm.mono (by decide)) (by rfl) T.d_taken_by.gl T.d_taken_by.fn.kp T.d_taken_by.bi pass0 (xa_cons (xv 0) xa_nil))) (blkOk_by (N := ["gate", "lanes", "free", "lane"]) (sc := defScope s__can_stand) (by decide +kernel)) (tg_name (by decide)) (fun _ _ _ _ _ => pg_name (i := 3) sc__can_stand.nd rfl (by first | exact Or.inl rfl | exact Or.inr rfl)) (fun _ _ _ _ _ => xts_nil) (fun _ _ _ _ _ => (xe_cmp op_notIn_seq l_inD (xv 3) (xv 2) (by rfl))))) xa_nil))) (yss_one (ys_ret xbl)) yss_nil)
      (yss_one (ys_ret (xe_callB (cr_all rfl) l_allC (by rfl) T.m_all (by decide +kernel) (xa_cons (xl_frz (xl_lc (own := [("lane", 3)]) (g := gName 3) rfl sc__can_stand.nd (xi_tup (xcall (ok_given_by T) (rm.mono (by decide)) (by rfl) T.d_given_by.gl T.d_given_by.fn.kp T.d_given_by.bi pass0 (xa_cons (xv 0) xa_nil))) (blkOk_by (N := ["gate", "lanes", "free", "lane"]) (sc := defScope s__can_stand) (by decide +kernel)) (tg_name (by decide)) (fun _ _ _ _ _ => pg_name (i := 3) sc__can_stand.nd rfl (by first | exact Or.inl rfl | exact Or.inr rfl)) (fun _ _ _ _ _ => xts_nil) (fun _ _ _ _ _ => (xe_cmp op_notIn_seq l_inD (xv 3) (xv 1) (by rfl))))) xa_nil))))), ?_⟩
  intro ds M k h
  obtain ⟨-, g, dl, df, lanes, free, rfl, vl, vf, h1, h2, hk⟩ := h
  rw [show start0 ["gate", "lanes", "free", "lane"] [g.d, dl, df] = [some g.d, some dl, some df, none] from rfl]
  simp only [TV.wSeq, TV.wIf, TV.wOr, TV.wNot, TV.wAnd, TV.wAndV, TV.wOrV, TV.wNotV, TV.wIfE, TV.wTru, TV.wCB, TV.wCons, TV.wVar, TV.wC, TV.wNil, TV.wTest, TV.wChain, TV.wRet, TV.wRetN, TV.wNext, TV.wSet, TV.wDrop, TV.wFrz, TV.wMut, TV.wDisp, TV.wTup, TV.wOp, TV.wCall, TV.wDget, TV.wDput, TV.wFor, TV.wLc, TV.wiL, TV.wiT, TV.wiS, TV.wiR1, TV.wiR2, TV.wiEnumS, TV.wiEnum, TV.wgName, TV.wgTup, TV.wgCons, TV.wgNil, TV.wPar, TV.wPar3, TV.wAsg, TV.wUn, TV.wBM, TV.wApp, TV.wSetI, TV.wListC, TV.wSlL, TV.wSlS, TV.wSlT, TV.wNo, TV.wPart, TV.wYes, TV.wRev, TV.wMelt, TV.wNever, TV.wipe0, TV.wDictM, TV.wDictF, TV.wDict0F, TV.wPairs, List.getElem?_cons_zero, List.getElem?_cons_succ, List.set_cons_zero, List.set_cons_succ, Option.some.injEq, exists_eq_left', exists_eq_left, List.cons.injEq, and_true, true_and, TV.D.str.injEq, TV.D.int.injEq, TV.D.bl.injEq, TV.D.lst.injEq, TV.D.tup.injEq, TV.D.obj.injEq, List.map_cons, List.map_nil, TV.cmpD, TV.subD, TV.intD, TV.inSD, TV.ninSD, TV.isND, TV.notND, TV.isBD, TV.divmodC, TV.absC, isiC', TV.len_str, TV.len_lst, TV.len_tup, TV.tru_bl, TV.tru_int, TV.tru_str, TV.tru_lst, TV.tru_tup, TV.add_int, TV.add_str, TV.add_lst, TV.add_tup, TV.mul_int, TV.mul_str, TV.ix_str, TV.ix_lst, TV.ix_tup, TV.count_str, TV.eq_str, TV.ne_str, TV.eq_int, TV.ne_int, TV.eq_lst, TV.ne_lst, TV.sgx, TV.vw_non, TV.vw_bl, TV.vw_int, TV.vw_str, TV.vw_tup, TV.vw_lst, TV.vw_fro, TV.vw_dct, TV.key_str, TV.key_int, false_or, or_false, List.length_nil, TV.ty_non, TV.ty_bl, TV.ty_int, TV.ty_str, TV.ty_tup, TV.ty_lst, TV.ty_dct, TV.tn_str, TV.tn_int, TV.tn_bool, TV.tn_list, TV.tn_tuple, TV.tn_dict, TV.isT, String.reduceBEq, Bool.and_false, Bool.or_false, Bool.false_and, Bool.and_true, Bool.true_or, Bool.or_true, and_assoc, TV.D.ty.injEq, reduceCtorEq, exists_const, exists_and_left, exists_and_right, if_true, if_false, Bool.not_true, Bool.not_false, Bool.false_eq_true, reduceIte, TV.wExt, TV.wPop, TV.wPopAt, TV.wChg, TV.wAny, TV.wAug, TV.wWhile, TV.kgetD, TV.kinD, TV.wLenSet, TV.wLenO, TV.wEqO, TV.wMakeF, TV.wMeth, TV.wFld, TV.wSetF, TV.sumC, TV.minC, TV.maxC, TV.lcmC, TV.isiO, TV.wLc2, TV.wSlT, TV.wIsiT, List.append_nil, TV.wEither, TV.wGet2, TV.wDict1, TV.wDictZip, TV.sumIC, TV.wiZip, TV.wCallL, TV.mulTD]
  have few : g.tk.length ≤ 2 ∧ g.gv.length ≤ 2 := by cases g <;> (simp [Gt.tk, Gt.gv])
  refine ⟨rfl, g, rfl, _, rfl, by rw [List.length_map]; omega, fun i acc M' => M' = M ∧ acc = List.replicate i (D.bl false), ⟨rfl, rfl⟩, ?_, ?_⟩
  · rintro i e acc M' he ⟨rfl, rfl⟩
    obtain ⟨x, hx, rfl⟩ := map_get he
    refine in_strsL vf ⟨rfl, ?_⟩
    rw [if_pos rfl, decide_eq_true (h1 x (List.mem_of_getElem? hx)), List.replicate_succ']
    rfl
  · rintro acc M' ⟨rfl, rfl⟩
    refine ⟨_, List.replicate _ false, rfl, by rw [List.map_replicate]; rfl, ?_⟩
    dsimp only
    rw [tru_bl, if_neg (by simp)]
    refine ⟨rfl, g, rfl, _, rfl, by rw [List.length_map]; omega, fun i acc M2 => M2 = M' ∧ acc = List.replicate i (D.bl true), ⟨rfl, rfl⟩, ?_, ?_⟩
    · rintro i e acc M' he ⟨rfl, rfl⟩
      obtain ⟨x, hx, rfl⟩ := map_get he
      refine in_strsL vl ⟨rfl, ?_⟩
      rw [if_pos rfl, decide_eq_false (h2 x (List.mem_of_getElem? hx)), List.replicate_succ']
      rfl
    · rintro acc M' ⟨rfl, rfl⟩
      refine ⟨_, List.replicate _ true, rfl, by rw [List.map_replicate]; rfl, ?_⟩
      dsimp only
      rw [show (List.replicate (List.map D.str g.gv).length true).all id = true by simp]
      exact hk
def sp__check_gates : DSp := fun ds M _ k => ds.length = 2 ∧ ∃ di dg ins gs, ds = [di, dg] ∧ seqOf M di (ins.map ilD) ∧ seqOf M dg (gs.map Gt.d) ∧ okIns ins ∧ gs.length ≤ 10 ∧ Stands (ins.map Prod.fst) (ins.map Prod.fst) 0 gs ∧ k .non M
theorem ok__check_gates (T : Tx w K mg) : FnG P w K mg base CX0 5 T.f__check_gates T.e__check_gates ["inlets", "gates"] (rSp K sp__check_gates) := by
  refine fnTW T.d__check_gates.fn sc__check_gates (fun ds M x k h => h.1) (by decide) (fun cdv A outer s H E rm => ?_) (fun ds M x k h => h)
  refine ⟨_, (yss_cons (ys_if (xt_not (xt_tru (xcall (ok_are_many T) (rm.mono (by decide)) (by rfl) T.d_are_many.gl T.d_are_many.fn.kp T.d_are_many.bi pass0 (xa_cons (xv 1) (xa_cons xint (xa_cons (xglob (v := .int 10) (fun _ => .int) (by rfl) T.c_MOST_GATES ⟨_, rfl⟩) xa_nil)))))) (yss_one ys_never) yss_nil)
      (yss_cons (ys_setLcM (i := 2) (own := [("lane", 7), ("_", 8)]) (g := gTup K 2 (gCons (gName 7) (gCons (gName 8) (gNil)))) rfl sc__check_gates.nd rfl rfl (sw_true rfl rfl rfl (by decide +kernel)) (xi_seq (xv 0)) (blkOk_by (N := ["inlets", "gates", "lanes", "free", "size", "at", "gate", "lane", "_"]) (sc := defScope s__check_gates) (by decide +kernel)) (tg_tup2 (by decide) (by decide)) (fun _ _ _ _ _ => pg_tup rfl (pgs_cons (pg_name (i := 7) sc__check_gates.nd rfl (by first | exact Or.inl rfl | exact Or.inr rfl)) (pgs_cons (pg_name (i := 8) sc__check_gates.nd rfl (by first | exact Or.inl rfl | exact Or.inr rfl)) pgs_nil))) (fun _ _ _ _ _ => xts_nil) (fun _ _ _ _ _ => (xv 7)))
      (yss_cons (ys_set (i := 3) sc__check_gates.nd rfl (by first | exact Or.inl rfl | exact Or.inr rfl) (xl_frz (xl_list (by rfl) T.m_list (xa_cons (xv 2) xa_nil))))
      (yss_cons (ys_set (i := 4) sc__check_gates.nd rfl (by first | exact Or.inl rfl | exact Or.inr rfl) xint)
      (yss_one (ys_for PassesOwn.never rfl (xi_enumB (by rfl) T.m_enumerate (xa_cons (xv 1) xa_nil)) (xg_tup rfl (xgs_cons (xg_name (i := 5) sc__check_gates.nd rfl (by first | exact Or.inl rfl | exact Or.inr rfl)) (xgs_cons (xg_name (i := 6) sc__check_gates.nd rfl (by first | exact Or.inl rfl | exact Or.inr rfl)) xgs_nil))) (yss_cons (ys_if (PW.pt (xw_or (xt_not (xt_tru (xcall (ok_is_gate T) (rm.mono (by decide)) (by rfl) T.d_is_gate.gl T.d_is_gate.fn.kp T.d_is_gate.bi pass0 (xa_cons (xv 6) xa_nil)))) (xw_or1 (xt_not (xt_tru (xcall (ok__can_stand T) (rm.mono (by decide)) (by rfl) T.d__can_stand.gl T.d__can_stand.fn.kp T.d__can_stand.bi pass0 (xa_cons (xv 6) (xa_cons (xv 2) (xa_cons (xv 3) xa_nil))))))))) (yss_one ys_never) yss_nil)
      (yss_cons (ys_aug (i := 4) sc__check_gates.nd rfl (by first | exact Or.inl rfl | exact Or.inr rfl) (xcall (ok_size_of T) (rm.mono (by decide)) (by rfl) T.d_size_of.gl T.d_size_of.fn.kp T.d_size_of.bi pass0 (xa_cons (xv 6) xa_nil)))
      (yss_cons (ys_if (xt_cmp op_gt l_cmpD (xv 4) (xglob (v := .int 12) (fun _ => .int) (by rfl) T.c_MOST_KEPT ⟨_, rfl⟩) (nomark _)) (yss_one ys_never) yss_nil)
      (yss_cons (ys_expr (xe_extend (xv 2) (xcall (ok_given_by T) (rm.mono (by decide)) (by rfl) T.d_given_by.gl T.d_given_by.fn.kp T.d_given_by.bi pass0 (xa_cons (xv 6) xa_nil))))
      (yss_one (ys_set (i := 3) sc__check_gates.nd rfl (by first | exact Or.inl rfl | exact Or.inr rfl) (xe_op op_addD l_addD (xl_frz (xl_lc (own := [("lane", 7)]) (g := gName 7) rfl sc__check_gates.nd (xi_list (xv 3)) (blkOk_by (N := ["inlets", "gates", "lanes", "free", "size", "at", "gate", "lane", "_"]) (sc := defScope s__check_gates) (by decide +kernel)) (tg_name (by decide)) (fun _ _ _ _ _ => pg_name (i := 7) sc__check_gates.nd rfl (by first | exact Or.inl rfl | exact Or.inr rfl)) (fun _ _ _ _ _ => xts_one (xt_cmp op_notIn_seq l_inD (xv 7) (xcall (ok_taken_by T) (rm.mono (by decide)) (by rfl) T.d_taken_by.gl T.d_taken_by.fn.kp T.d_taken_by.bi pass0 (xa_cons (xv 6) xa_nil)) (by rfl))) (fun _ _ _ _ _ => (xv 7)))) (xl_frz (xl_list (by rfl) T.m_list (xa_cons (xcall (ok_given_by T) (rm.mono (by decide)) (by rfl) T.d_given_by.gl T.d_given_by.fn.kp T.d_given_by.bi pass0 (xa_cons (xv 6) xa_nil)) xa_nil)))))))))))))))), ?_⟩
  intro ds M k h
  obtain ⟨-, di, dg, ins, gs, rfl, hi, hg, oi, few, st, hk⟩ := h
  rw [show start0 ["inlets", "gates", "lanes", "free", "size", "at", "gate", "lane", "_"] [di, dg] = [some di, some dg, none, none, none, none, none, none, none] from rfl]
  simp only [TV.wSeq, TV.wIf, TV.wOr, TV.wNot, TV.wAnd, TV.wAndV, TV.wOrV, TV.wNotV, TV.wIfE, TV.wTru, TV.wCB, TV.wCons, TV.wVar, TV.wC, TV.wNil, TV.wTest, TV.wChain, TV.wRet, TV.wRetN, TV.wNext, TV.wSet, TV.wDrop, TV.wFrz, TV.wMut, TV.wDisp, TV.wTup, TV.wOp, TV.wCall, TV.wDget, TV.wDput, TV.wFor, TV.wLc, TV.wiL, TV.wiT, TV.wiS, TV.wiR1, TV.wiR2, TV.wiEnumS, TV.wiEnum, TV.wgName, TV.wgTup, TV.wgCons, TV.wgNil, TV.wPar, TV.wPar3, TV.wAsg, TV.wUn, TV.wBM, TV.wApp, TV.wSetI, TV.wListC, TV.wSlL, TV.wSlS, TV.wSlT, TV.wNo, TV.wPart, TV.wYes, TV.wRev, TV.wMelt, TV.wNever, TV.wipe0, TV.wDictM, TV.wDictF, TV.wDict0F, TV.wPairs, List.getElem?_cons_zero, List.getElem?_cons_succ, List.set_cons_zero, List.set_cons_succ, Option.some.injEq, exists_eq_left', exists_eq_left, List.cons.injEq, and_true, true_and, TV.D.str.injEq, TV.D.int.injEq, TV.D.bl.injEq, TV.D.lst.injEq, TV.D.tup.injEq, TV.D.obj.injEq, List.map_cons, List.map_nil, TV.cmpD, TV.subD, TV.intD, TV.inSD, TV.ninSD, TV.isND, TV.notND, TV.isBD, TV.divmodC, TV.absC, isiC', TV.len_str, TV.len_lst, TV.len_tup, TV.tru_bl, TV.tru_int, TV.tru_str, TV.tru_lst, TV.tru_tup, TV.add_int, TV.add_str, TV.add_lst, TV.add_tup, TV.mul_int, TV.mul_str, TV.ix_str, TV.ix_lst, TV.ix_tup, TV.count_str, TV.eq_str, TV.ne_str, TV.eq_int, TV.ne_int, TV.eq_lst, TV.ne_lst, TV.sgx, TV.vw_non, TV.vw_bl, TV.vw_int, TV.vw_str, TV.vw_tup, TV.vw_lst, TV.vw_fro, TV.vw_dct, TV.key_str, TV.key_int, false_or, or_false, List.length_nil, TV.ty_non, TV.ty_bl, TV.ty_int, TV.ty_str, TV.ty_tup, TV.ty_lst, TV.ty_dct, TV.tn_str, TV.tn_int, TV.tn_bool, TV.tn_list, TV.tn_tuple, TV.tn_dict, TV.isT, String.reduceBEq, Bool.and_false, Bool.or_false, Bool.false_and, Bool.and_true, Bool.true_or, Bool.or_true, and_assoc, TV.D.ty.injEq, reduceCtorEq, exists_const, exists_and_left, exists_and_right, if_true, if_false, Bool.not_true, Bool.not_false, Bool.false_eq_true, reduceIte, TV.wExt, TV.wPop, TV.wPopAt, TV.wChg, TV.wAny, TV.wAug, TV.wWhile, TV.kgetD, TV.kinD, TV.wLenSet, TV.wLenO, TV.wEqO, TV.wMakeF, TV.wMeth, TV.wFld, TV.wSetF, TV.sumC, TV.minC, TV.maxC, TV.lcmC, TV.isiO, TV.wLc2, TV.wSlT, TV.wIsiT, List.append_nil, TV.wEither, TV.wGet2, TV.wDict1, TV.wDictZip, TV.sumIC, TV.wiZip, TV.wCallL, TV.mulTD]
  refine ⟨rfl, dg, _, _, _, rfl, hg, ?_⟩
  rw [List.length_map, decide_eq_true (by omega), decide_eq_true (by omega)]
  dsimp only
  rw [Bool.and_true, tru_bl, if_neg (by decide)]
  refine in_seq rfl hi fun stay hs => ⟨by rw [List.length_map]; have := oi.2.1; omega, fun i acc M' => M' = M ∧ acc = ((ins.take i).map Prod.fst).map D.str, ⟨rfl, rfl⟩, ?_, ?_⟩
  · rintro i e acc M' he ⟨rfl, rfl⟩
    obtain ⟨q, h2, rfl⟩ := map_get he
    refine ⟨hs _ hi, _, rfl, rfl, _, _, rfl, _, _, rfl, rfl, rfl, ?_⟩
    rw [List.take_add_one, h2]
    simp
  · rintro acc M' ⟨rfl, rfl⟩
    rw [List.length_map, List.take_length]
    refine ⟨hs _ hi, fun p hp => ⟨_, view_at, in_enumB rfl (seq_upd hg hp) fun stay2 hs2 => ⟨fun i ρ' M2 => ∃ (lanes free : List Str) (size : Int) (d1 d2 : Option D), ρ' = [some di, some dg, some (.obj p), some (.lst (free.map D.str)), some (.int size), d1, d2, none, none] ∧
      M2 = updM M' p (.lst (lanes.map D.str)) ∧ Stands lanes free size (gs.drop i) ∧ lanes.length ≤ 3 + 2 * i ∧ free.length ≤ 3 + 2 * i,
      ⟨ins.map Prod.fst, ins.map Prod.fst, 0, none, none, rfl, rfl, st, by rw [List.length_map]; exact oi.2.1, by rw [List.length_map]; exact oi.2.1⟩, ?_, ?_⟩⟩⟩
    · rintro i e ρ' M2 he ⟨lanes, free, size, d1, d2, rfl, rfl, st2, l1, l2⟩
      obtain ⟨e', h1, rfl⟩ := pairs_get he
      obtain ⟨g, h2, rfl⟩ := map_get h1
      have lt : i < gs.length := (List.getElem?_eq_some_iff.mp h2).1
      have dr : gs.drop i = g :: gs.drop (i + 1) := by
        rw [List.drop_eq_getElem_cons lt]
        rw [List.getElem?_eq_getElem lt] at h2
        rw [Option.some.inj h2]
      rw [dr] at st2
      obtain ⟨gok, c1, c2, c3, st3⟩ := st2
      refine ⟨hs2 _ (seq_upd hg hp), _, rfl, rfl, _, _, rfl, _, _, rfl, rfl, ?_⟩
      simp only [TV.wSeq, TV.wIf, TV.wOr, TV.wNot, TV.wAnd, TV.wAndV, TV.wOrV, TV.wNotV, TV.wIfE, TV.wTru, TV.wCB, TV.wCons, TV.wVar, TV.wC, TV.wNil, TV.wTest, TV.wChain, TV.wRet, TV.wRetN, TV.wNext, TV.wSet, TV.wDrop, TV.wFrz, TV.wMut, TV.wDisp, TV.wTup, TV.wOp, TV.wCall, TV.wDget, TV.wDput, TV.wFor, TV.wLc, TV.wiL, TV.wiT, TV.wiS, TV.wiR1, TV.wiR2, TV.wiEnumS, TV.wiEnum, TV.wgName, TV.wgTup, TV.wgCons, TV.wgNil, TV.wPar, TV.wPar3, TV.wAsg, TV.wUn, TV.wBM, TV.wApp, TV.wSetI, TV.wListC, TV.wSlL, TV.wSlS, TV.wSlT, TV.wNo, TV.wPart, TV.wYes, TV.wRev, TV.wMelt, TV.wNever, TV.wipe0, TV.wDictM, TV.wDictF, TV.wDict0F, TV.wPairs, List.getElem?_cons_zero, List.getElem?_cons_succ, List.set_cons_zero, List.set_cons_succ, Option.some.injEq, exists_eq_left', exists_eq_left, List.cons.injEq, and_true, true_and, TV.D.str.injEq, TV.D.int.injEq, TV.D.bl.injEq, TV.D.lst.injEq, TV.D.tup.injEq, TV.D.obj.injEq, List.map_cons, List.map_nil, TV.cmpD, TV.subD, TV.intD, TV.inSD, TV.ninSD, TV.isND, TV.notND, TV.isBD, TV.divmodC, TV.absC, isiC', TV.len_str, TV.len_lst, TV.len_tup, TV.tru_bl, TV.tru_int, TV.tru_str, TV.tru_lst, TV.tru_tup, TV.add_int, TV.add_str, TV.add_lst, TV.add_tup, TV.mul_int, TV.mul_str, TV.ix_str, TV.ix_lst, TV.ix_tup, TV.count_str, TV.eq_str, TV.ne_str, TV.eq_int, TV.ne_int, TV.eq_lst, TV.ne_lst, TV.sgx, TV.vw_non, TV.vw_bl, TV.vw_int, TV.vw_str, TV.vw_tup, TV.vw_lst, TV.vw_fro, TV.vw_dct, TV.key_str, TV.key_int, false_or, or_false, List.length_nil, TV.ty_non, TV.ty_bl, TV.ty_int, TV.ty_str, TV.ty_tup, TV.ty_lst, TV.ty_dct, TV.tn_str, TV.tn_int, TV.tn_bool, TV.tn_list, TV.tn_tuple, TV.tn_dict, TV.isT, String.reduceBEq, Bool.and_false, Bool.or_false, Bool.false_and, Bool.and_true, Bool.true_or, Bool.or_true, and_assoc, TV.D.ty.injEq, reduceCtorEq, exists_const, exists_and_left, exists_and_right, if_true, if_false, Bool.not_true, Bool.not_false, Bool.false_eq_true, reduceIte, TV.wExt, TV.wPop, TV.wPopAt, TV.wChg, TV.wAny, TV.wAug, TV.wWhile, TV.kgetD, TV.kinD, TV.wLenSet, TV.wLenO, TV.wEqO, TV.wMakeF, TV.wMeth, TV.wFld, TV.wSetF, TV.sumC, TV.minC, TV.maxC, TV.lcmC, TV.isiO, TV.wLc2, TV.wSlT, TV.wIsiT, List.append_nil, TV.wEither, TV.wGet2, TV.wDict1, TV.wDictZip, TV.sumIC, TV.wiZip, TV.wCallL, TV.mulTD]
      have lens : g.tk.length ≤ 2 ∧ g.gv.length ≤ 2 := by cases g <;> (simp [Gt.tk, Gt.gv])
      refine ⟨rfl, g, rfl, gok, ?_⟩
      dsimp only
      rw [tru_bl, if_neg (by decide)]
      refine ⟨rfl, g, _, _, lanes, free, rfl, view_at, rfl, c1, c2, ?_⟩
      dsimp only
      rw [tru_bl, if_neg (by decide)]
      refine ⟨rfl, g, rfl, g.sz, rfl, ?_⟩
      rw [if_neg (by rw [decide_eq_true_eq]; omega)]
      refine ⟨⟨_, updM_same⟩, rfl, g, rfl, _, updM_same, _, .inr rfl, by rw [List.length_map, List.length_map]; omega, by rw [List.length_map]; omega, ?_⟩
      rw [updM_updM, ← List.map_append]
      refine ⟨fun j acc M3 => M3 = updM M' p (.lst ((lanes ++ g.gv).map D.str)) ∧ acc = ((free.take j).filter fun x => !decide (x ∈ g.tk)).map D.str, ⟨rfl, rfl⟩, ?_, ?_⟩
      · rintro j e acc M3 he3 ⟨rfl, rfl⟩
        obtain ⟨x, hx, rfl⟩ := map_get he3
        refine ⟨rfl, g, rfl, in_strsT ⟨_, rfl, ?_⟩⟩
        dsimp only
        rw [List.take_add_one, hx, List.filter_append]
        cases e : decide (x ∈ g.tk) with
        | true =>
          rw [if_neg (by decide)]
          refine ⟨rfl, ?_⟩
          simp [e]
        | false =>
          rw [if_pos (by decide)]
          refine ⟨rfl, ?_⟩
          simp [e]
      · rintro acc M3 ⟨rfl, rfl⟩
        rw [show List.take (List.map D.str free).length free = free by rw [List.length_map, List.take_length]]
        refine ⟨rfl, g, rfl, _, .inr (.inr rfl), ?_, lanes ++ g.gv, stepFree free g, ?_, rfl, st3, ?_, ?_⟩
        · rw [List.length_map, List.length_map]
          have := List.length_filter_le (fun x => !decide (x ∈ g.tk)) free
          omega
        · unfold stepFree
          rw [List.map_append]
        · rw [List.length_append]
          omega
        · unfold stepFree
          rw [List.length_append]
          have := List.length_filter_le (fun x => !decide (x ∈ g.tk)) free
          omega
    · rintro ρ' M2 ⟨lanes, free, size, d1, d2, rfl, rfl, st2, l1, l2⟩
      exact ⟨hs2 _ (seq_upd hg hp), M', SubM.refl.upd hp, hk⟩
end
end K08

set_option Elab.async false
set_option linter.all false
set_option maxRecDepth 100000
set_option maxHeartbeats 2000000
namespace K08
open PySem PySem.Spec PyProof.Rows L2 TV
section
variable {P : Program} {w : World} {K : PySem.W.Frag} {mg : Str → Option Value} {base : Heap}
/-! ### as plain data -/
def pyI (p : Str × Str) : PyData := .tuple [.str p.1, .str p.2]
def pyT : Gt → List PyData
  | .hold _ _ c r => [.int c, .int r] | .wait _ _ c => [.int c] | .lag _ _ c => [.int c] | .deal _ _ _ t => [.str t] | .join _ _ _ c => [.int c] | .cross .. => []
def pyG (g : Gt) : PyData := .tuple (.str g.word :: ((g.tk ++ g.gv).map PyData.str ++ pyT g))
theorem pyI_py (p : Str × Str) : toPy (ilD p) = some (pyI p) := rfl
theorem pyI_r (p : Str × Str) : toR (ilD p) = some (pyI p) := rfl
theorem pyG_py (g : Gt) : toPy g.d = some (pyG g) := by cases g <;> rfl
theorem pyG_r (g : Gt) : toR g.d = some (pyG g) := by cases g <;> rfl
theorem pyI_fine (p : Str × Str) : fineP (pyI p) = true := rfl
theorem pyG_fine (g : Gt) : fineP (pyG g) = true := by cases g <;> rfl
theorem pyI_inj {p q : Str × Str} (h : pyI p = pyI q) : p = q := by
  obtain ⟨a, b⟩ := p
  obtain ⟨c, d⟩ := q
  simp [pyI] at h
  rw [h.1, h.2]
def wix : Gt → Nat
  | .hold .. => 0 | .wait .. => 1 | .lag .. => 2 | .deal .. => 3 | .join .. => 4 | .cross .. => 5
def words : List Str := ["hold", "wait", "lag", "deal", "join", "cross"]
theorem words_nd : words.Nodup := by decide +kernel
theorem word_at (g : Gt) : words[wix g]? = some g.word := by cases g <;> rfl
theorem word_inj {g g2 : Gt} (h : g.word = g2.word) : wix g = wix g2 := by
  have a := word_at g
  have b := word_at g2
  rw [← h] at b
  have six : words.length = 6 := by decide +kernel
  have lt : wix g < words.length := by rw [six]; cases g <;> (simp [wix])
  exact (List.getElem?_inj lt words_nd).mp (a.trans b.symm)
theorem pyG_inj {g g2 : Gt} (h : pyG g = pyG g2) : g = g2 := by
  have hw : wix g = wix g2 := word_inj (by
    simp only [pyG, PyData.tuple.injEq, List.cons.injEq, PyData.str.injEq] at h
    exact h.1)
  cases g <;> cases g2 <;> first | (simp [wix] at hw; done) | (simp [pyG, pyT, Gt.tk, Gt.gv] at h ⊢; simp [h])
theorem map_inj {α β : Type} {f : α → β} (hf : ∀ x y, f x = f y → x = y) : ∀ xs ys : List α, xs.map f = ys.map f → xs = ys
  | [], [], _ => rfl
  | [], _ :: _, h => by simp at h
  | _ :: _, [], h => by simp at h
  | x :: xs, y :: ys, h => by
    rw [List.map_cons, List.map_cons, List.cons.injEq] at h
    rw [hf x y h.1, map_inj hf xs ys h.2]
theorem eqv_ins (a b : List (Str × Str)) : PyData.eqvAll (a.map pyI) (b.map pyI) = decide (a = b) := by
  have e := eqv_all (a.map pyI) (b.map pyI) (fine_map _ fun x _ => pyI_fine x) (fine_map _ fun x _ => pyI_fine x)
  by_cases h : a = b
  · subst h
    rw [decide_eq_true rfl]
    exact e.mpr rfl
  · rw [decide_eq_false h]
    cases z : PyData.eqvAll (a.map pyI) (b.map pyI) with
    | false => rfl
    | true => exact absurd (map_inj (fun _ _ => pyI_inj) _ _ (e.mp z)) h
theorem eqv_gs (a b : List Gt) : PyData.eqvAll (a.map pyG) (b.map pyG) = decide (a = b) := by
  have e := eqv_all (a.map pyG) (b.map pyG) (fine_map _ fun x _ => pyG_fine x) (fine_map _ fun x _ => pyG_fine x)
  by_cases h : a = b
  · subst h
    rw [decide_eq_true rfl]
    exact e.mpr rfl
  · rw [decide_eq_false h]
    cases z : PyData.eqvAll (a.map pyG) (b.map pyG) with
    | false => rfl
    | true => exact absurd (map_inj (fun _ _ => pyG_inj) _ _ (e.mp z)) h
/-! small -/
theorem abc_lt : ∀ c ∈ abc, c < 128 := by decide +kernel
theorem nm_nice {s : Str} (h : okName s) : Nice (.str s) 40 0 :=
  (Nice.str fun c hc => by have := abc_lt c (h.2.2 c hc); omega).up (by have := h.2.1; omega) (Nat.le_refl _)
theorem rh_nice {s : Str} (h : okRh s) : Nice (.str s) 40 0 :=
  (Nice.str fun c hc => by rcases h.2.2.1 c hc with e | e <;> omega).up (by have := h.2.1; omega) (Nat.le_refl _)
theorem tx_nice {s : Str} (h : okTx s) : Nice (.str s) 40 0 :=
  (Nice.str fun c hc => by rcases h.2.2 c hc with e | e <;> omega).up (by have := h.2.1; omega) (Nat.le_refl _)
theorem word_nice (g : Gt) : Nice (.str g.word) 40 0 := by
  have key : ∀ z ∈ words, z.length ≤ 8 ∧ ∀ c ∈ z.cps.toList, c < 256 := by decide +kernel
  have k := key g.word (List.mem_of_getElem? (word_at g))
  exact (Nice.str k.2).up (by omega) (Nat.le_refl _)
theorem int_nice {i : Int} (h0 : 0 ≤ i) (h1 : i < 400) : Nice (.int i) 40 0 := (Nice.int h0 h1).up (by decide) (Nat.le_refl _)
theorem told_nice {g : Gt} (h : g.okc) : ∀ x ∈ pyT g, Nice x 40 0 := by
  intro x hx
  cases g <;> simp only [pyT, List.mem_cons, List.not_mem_nil, or_false] at hx
  · obtain ⟨a, b, c, d⟩ := h
    rcases hx with rfl | rfl
    · exact int_nice a (by omega)
    · exact int_nice c (by omega)
  · subst hx
    exact int_nice h.1 (by have := h.2; omega)
  · subst hx
    exact int_nice (by have := h.1; omega) (by have := h.2; omega)
  · subst hx
    exact tx_nice h
  · subst hx
    exact int_nice h.1 (by have := h.2; omega)
theorem pyI_nice {p : Str × Str} (h : okInl p) : Nice (pyI p) 300 1 :=
  (Nice.tuple (b := 40) (n := 0) (xs := [.str p.1, .str p.2]) fun x hx => by
    simp only [List.mem_cons, List.not_mem_nil, or_false] at hx
    rcases hx with rfl | rfl
    · exact nm_nice h.1
    · exact rh_nice h.2).up (by simp) (Nat.le_refl _)
theorem pyG_nice {g : Gt} (h : g.ok) : Nice (pyG g) 300 1 := by
  have l : ((PyData.str g.word :: ((g.tk ++ g.gv).map PyData.str ++ pyT g)) : List PyData).length ≤ 5 := by cases g <;> (simp [Gt.tk, Gt.gv, pyT])
  refine (Nice.tuple (b := 40) (n := 0) fun x hx => ?_).up (by omega) (Nat.le_refl _)
  rcases List.mem_cons.mp hx with rfl | hx
  · exact word_nice g
  · rcases List.mem_append.mp hx with hx | hx
    · obtain ⟨y, hy, rfl⟩ := List.mem_map.mp hx
      exact nm_nice (h.1 y hy)
    · exact told_nice h.2.2 x hx
theorem ins_nice {ins : List (Str × Str)} (h : ∀ p ∈ ins, okInl p) (few : ins.length ≤ 100) : Nice (.list (ins.map pyI)) 40000 2 ∧ Nice (.tuple (ins.map pyI)) 40000 2 := by
  have k : ∀ x ∈ ins.map pyI, Nice x 300 1 := fun x hx => by
    obtain ⟨y, hy, rfl⟩ := List.mem_map.mp hx
    exact pyI_nice (h y hy)
  exact ⟨(Nice.list k).up (by rw [List.length_map]; omega) (Nat.le_refl _), (Nice.tuple k).up (by rw [List.length_map]; omega) (Nat.le_refl _)⟩
theorem gs_nice {gs : List Gt} (h : ∀ g ∈ gs, g.ok) (few : gs.length ≤ 100) : Nice (.list (gs.map pyG)) 40000 2 ∧ Nice (.tuple (gs.map pyG)) 40000 2 := by
  have k : ∀ x ∈ gs.map pyG, Nice x 300 1 := fun x hx => by
    obtain ⟨y, hy, rfl⟩ := List.mem_map.mp hx
    exact pyG_nice (h y hy)
  exact ⟨(Nice.list k).up (by rw [List.length_map]; omega) (Nat.le_refl _), (Nice.tuple k).up (by rw [List.length_map]; omega) (Nat.le_refl _)⟩
/-! ### the class -/
def webF (i g : List D) : List (Str × D) := [("_inlets", .tup i), ("_gates", .tup g)]
def webOf (ins : List (Str × Str)) (gs : List Gt) : List (Str × D) := webF (ins.map ilD) (gs.map Gt.d)
def okWeb (ins : List (Str × Str)) (gs : List Gt) : Prop := okIns ins ∧ gs.length ≤ 10 ∧ Stands (ins.map Prod.fst) (ins.map Prod.fst) 0 gs
theorem ig : (("_gates" : Str) == ("_inlets" : Str)) = false := by decide +kernel
theorem igne : ¬ (("_inlets" : Str) = ("_gates" : Str)) := by decide +kernel
theorem fld_i {i g : List D} : (webF i g).lookup ("_inlets" : Str) = some (D.tup i) := by simp [webF, List.lookup]
theorem fld_g {i g : List D} : (webF i g).lookup ("_gates" : Str) = some (D.tup g) := by simp [webF, List.lookup, ig]
def sp_Web___init__ (C : Addr) : DSp := fun ds M _ k => ds.length = 3 ∧ ∃ a di dg ins gs, ds = [.obj a, di, dg] ∧ M a = some (.ins C []) ∧ seqOf M di (ins.map ilD) ∧ seqOf M dg (gs.map Gt.d) ∧ okWeb ins gs ∧ k .non (updM M a (.ins C (webOf ins gs)))
theorem ok_Web___init__ (T : Tx w K mg) : FnG P w K mg base CX0 6 T.f_Web___init__ T.e_Web___init__ ["self", "inlets", "gates"] (rSp K (sp_Web___init__ T.C_Web)) := by
  refine fnTWD T.d_Web___init__.fn sc_Web___init__ (fun ds M x k h => h.1) (by decide) (fun cdv A outer s H E rm => ?_) (fun ds M x k h => h)
  refine ⟨_, (yss_cons (ys_expr (xcall (ok__check_inlets T) (rm.mono (by decide)) (by rfl) T.d__check_inlets.gl T.d__check_inlets.fn.kp T.d__check_inlets.bi pass0 (xa_cons (xv 1) xa_nil)))
      (yss_cons (ys_expr (xcall (ok__check_gates T) (rm.mono (by decide)) (by rfl) T.d__check_gates.gl T.d__check_gates.fn.kp T.d__check_gates.bi pass0 (xa_cons (xv 1) (xa_cons (xv 2) xa_nil))))
      (yss_cons (ys_fld T.c_Web T.na_Web__inlets (xv 0) (xe_callTy call_tuple_of l_tupleC (by rfl) T.m_tuple (by decide +kernel) (xa_cons (xv 1) xa_nil)))
      (yss_one (ys_fld T.c_Web T.na_Web__gates (xv 0) (xe_callTy call_tuple_of l_tupleC (by rfl) T.m_tuple (by decide +kernel) (xa_cons (xv 2) xa_nil))))))), ?_⟩
  intro ds M k h
  obtain ⟨-, a, di, dg, ins, gs, rfl, ha, hi, hg, ok, hk⟩ := h
  rw [show start0 ["self", "inlets", "gates"] [D.obj a, di, dg] = [some (.obj a), some di, some dg] from rfl]
  simp only [TV.wSeq, TV.wIf, TV.wOr, TV.wNot, TV.wAnd, TV.wAndV, TV.wOrV, TV.wNotV, TV.wIfE, TV.wTru, TV.wCB, TV.wCons, TV.wVar, TV.wC, TV.wNil, TV.wTest, TV.wChain, TV.wRet, TV.wRetN, TV.wNext, TV.wSet, TV.wDrop, TV.wFrz, TV.wMut, TV.wDisp, TV.wTup, TV.wOp, TV.wCall, TV.wDget, TV.wDput, TV.wFor, TV.wLc, TV.wiL, TV.wiT, TV.wiS, TV.wiR1, TV.wiR2, TV.wiEnumS, TV.wiEnum, TV.wgName, TV.wgTup, TV.wgCons, TV.wgNil, TV.wPar, TV.wPar3, TV.wAsg, TV.wUn, TV.wBM, TV.wApp, TV.wSetI, TV.wListC, TV.wSlL, TV.wSlS, TV.wSlT, TV.wNo, TV.wPart, TV.wYes, TV.wRev, TV.wMelt, TV.wNever, TV.wipe0, TV.wDictM, TV.wDictF, TV.wDict0F, TV.wPairs, List.getElem?_cons_zero, List.getElem?_cons_succ, List.set_cons_zero, List.set_cons_succ, Option.some.injEq, exists_eq_left', exists_eq_left, List.cons.injEq, and_true, true_and, TV.D.str.injEq, TV.D.int.injEq, TV.D.bl.injEq, TV.D.lst.injEq, TV.D.tup.injEq, TV.D.obj.injEq, List.map_cons, List.map_nil, TV.cmpD, TV.subD, TV.intD, TV.inSD, TV.ninSD, TV.isND, TV.notND, TV.isBD, TV.divmodC, TV.absC, isiC', TV.len_str, TV.len_lst, TV.len_tup, TV.tru_bl, TV.tru_int, TV.tru_str, TV.tru_lst, TV.tru_tup, TV.add_int, TV.add_str, TV.add_lst, TV.add_tup, TV.mul_int, TV.mul_str, TV.ix_str, TV.ix_lst, TV.ix_tup, TV.count_str, TV.eq_str, TV.ne_str, TV.eq_int, TV.ne_int, TV.eq_lst, TV.ne_lst, TV.sgx, TV.vw_non, TV.vw_bl, TV.vw_int, TV.vw_str, TV.vw_tup, TV.vw_lst, TV.vw_fro, TV.vw_dct, TV.key_str, TV.key_int, false_or, or_false, List.length_nil, TV.ty_non, TV.ty_bl, TV.ty_int, TV.ty_str, TV.ty_tup, TV.ty_lst, TV.ty_dct, TV.tn_str, TV.tn_int, TV.tn_bool, TV.tn_list, TV.tn_tuple, TV.tn_dict, TV.isT, String.reduceBEq, Bool.and_false, Bool.or_false, Bool.false_and, Bool.and_true, Bool.true_or, Bool.or_true, and_assoc, TV.D.ty.injEq, reduceCtorEq, exists_const, exists_and_left, exists_and_right, if_true, if_false, Bool.not_true, Bool.not_false, Bool.false_eq_true, reduceIte, TV.wExt, TV.wPop, TV.wPopAt, TV.wChg, TV.wAny, TV.wAug, TV.wWhile, TV.kgetD, TV.kinD, TV.wLenSet, TV.wLenO, TV.wEqO, TV.wMakeF, TV.wMeth, TV.wFld, TV.wSetF, TV.sumC, TV.minC, TV.maxC, TV.lcmC, TV.isiO, TV.wLc2, TV.wSlT, TV.wIsiT, List.append_nil, TV.wEither, TV.wGet2, TV.wDict1, TV.wDictZip, TV.sumIC, TV.wiZip, TV.wCallL, TV.mulTD]
  have put : ∀ {fs fs' : List (Str × D)} {M' : MS} {d : D} {xs : List D}, M' a = some (.ins T.C_Web fs) → seqOf M' d xs → seqOf (updM M' a (.ins T.C_Web fs')) d xs := fun {fs fs' M' d xs} e h => by
    rcases h with h | h
    · refine .inl ?_
      cases d with
      | obj q =>
        have ne : q ≠ a := fun z => by
          subst z
          simp [view, e] at h
        simpa only [view, updM_ne ne] using h
      | _ => exact h
    · exact .inr h
  refine ⟨rfl, di, ins, rfl, hi, ok.1, rfl, di, dg, ins, gs, rfl, hi, hg, ok.1, ok.2.1, ok.2.2, di, _, rfl, hi, _, ha, by decide, dg, _, rfl, put ha hg, _, updM_same, by simp [putFD], _, SubM.refl, ?_⟩
  rw [updM_updM]
  have e : putFD ("_gates" : Str) (.tup (gs.map Gt.d)) (putFD ("_inlets" : Str) (.tup (ins.map ilD)) []) = webOf ins gs := by
    simp only [putFD, webOf, webF, igne, if_false]
  rw [e]
  exact hk
theorem view_ins {M : MS} {p C : Addr} {m : MO} {d : D} {fs : List (Str × D)} (h : view M d = .ins C fs) (hp : M p = none) : view (updM M p m) d = .ins C fs := by
  rw [view_upd hp fun a e => ?_, h]
  subst e
  intro z
  simp [view, z] at h
def newL (M : MS) (xs : List D) (k : KD) : Prop := k (.lst xs) M ∨ ∀ p, M p = none → k (.obj p) (updM M p (.lst xs))
def sp_Web_inlets (C : Addr) : DSp := fun ds M _ k => ds.length = 1 ∧ ∃ d ins gs, ds = [d] ∧ view M d = .ins C (webOf ins gs) ∧ newL M (ins.map ilD) k
theorem ok_Web_inlets (T : Tx w K mg) : FnG P w K mg base CX0 1 T.f_Web_inlets T.e_Web_inlets ["self"] (rSp K (sp_Web_inlets T.C_Web)) := by
  refine fnT T.d_Web_inlets.fn sc_Web_inlets (fun ds M x k h => h.1) (by decide) (fun cdv A outer s H E rm => ?_) (fun ds M x k h => h)
  refine ⟨_, (yss_one (ys_ret (xl_any (xl_list (by rfl) T.m_list (xa_cons (xe_fld T.c_Web T.na_Web__inlets (xv 0)) xa_nil))))), ?_⟩
  intro ds M k h
  obtain ⟨-, d, ins, gs, rfl, hd, hk⟩ := h
  rw [show start0 ["self"] [d] = [some d] from rfl]
  simp only [TV.wSeq, TV.wIf, TV.wOr, TV.wNot, TV.wAnd, TV.wAndV, TV.wOrV, TV.wNotV, TV.wIfE, TV.wTru, TV.wCB, TV.wCons, TV.wVar, TV.wC, TV.wNil, TV.wTest, TV.wChain, TV.wRet, TV.wRetN, TV.wNext, TV.wSet, TV.wDrop, TV.wFrz, TV.wMut, TV.wDisp, TV.wTup, TV.wOp, TV.wCall, TV.wDget, TV.wDput, TV.wFor, TV.wLc, TV.wiL, TV.wiT, TV.wiS, TV.wiR1, TV.wiR2, TV.wiEnumS, TV.wiEnum, TV.wgName, TV.wgTup, TV.wgCons, TV.wgNil, TV.wPar, TV.wPar3, TV.wAsg, TV.wUn, TV.wBM, TV.wApp, TV.wSetI, TV.wListC, TV.wSlL, TV.wSlS, TV.wSlT, TV.wNo, TV.wPart, TV.wYes, TV.wRev, TV.wMelt, TV.wNever, TV.wipe0, TV.wDictM, TV.wDictF, TV.wDict0F, TV.wPairs, List.getElem?_cons_zero, List.getElem?_cons_succ, List.set_cons_zero, List.set_cons_succ, Option.some.injEq, exists_eq_left', exists_eq_left, List.cons.injEq, and_true, true_and, TV.D.str.injEq, TV.D.int.injEq, TV.D.bl.injEq, TV.D.lst.injEq, TV.D.tup.injEq, TV.D.obj.injEq, List.map_cons, List.map_nil, TV.cmpD, TV.subD, TV.intD, TV.inSD, TV.ninSD, TV.isND, TV.notND, TV.isBD, TV.divmodC, TV.absC, isiC', TV.len_str, TV.len_lst, TV.len_tup, TV.tru_bl, TV.tru_int, TV.tru_str, TV.tru_lst, TV.tru_tup, TV.add_int, TV.add_str, TV.add_lst, TV.add_tup, TV.mul_int, TV.mul_str, TV.ix_str, TV.ix_lst, TV.ix_tup, TV.count_str, TV.eq_str, TV.ne_str, TV.eq_int, TV.ne_int, TV.eq_lst, TV.ne_lst, TV.sgx, TV.vw_non, TV.vw_bl, TV.vw_int, TV.vw_str, TV.vw_tup, TV.vw_lst, TV.vw_fro, TV.vw_dct, TV.key_str, TV.key_int, false_or, or_false, List.length_nil, TV.ty_non, TV.ty_bl, TV.ty_int, TV.ty_str, TV.ty_tup, TV.ty_lst, TV.ty_dct, TV.tn_str, TV.tn_int, TV.tn_bool, TV.tn_list, TV.tn_tuple, TV.tn_dict, TV.isT, String.reduceBEq, Bool.and_false, Bool.or_false, Bool.false_and, Bool.and_true, Bool.true_or, Bool.or_true, and_assoc, TV.D.ty.injEq, reduceCtorEq, exists_const, exists_and_left, exists_and_right, if_true, if_false, Bool.not_true, Bool.not_false, Bool.false_eq_true, reduceIte, TV.wExt, TV.wPop, TV.wPopAt, TV.wChg, TV.wAny, TV.wAug, TV.wWhile, TV.kgetD, TV.kinD, TV.wLenSet, TV.wLenO, TV.wEqO, TV.wMakeF, TV.wMeth, TV.wFld, TV.wSetF, TV.sumC, TV.minC, TV.maxC, TV.lcmC, TV.isiO, TV.wLc2, TV.wSlT, TV.wIsiT, List.append_nil, TV.wEither, TV.wGet2, TV.wDict1, TV.wDictZip, TV.sumIC, TV.wiZip, TV.wCallL, TV.mulTD]
  exact ⟨_, hd, _, fld_i, _, .inr (.inr rfl), hk⟩
theorem no_fld {i g : List D} {m : Str} (h1 : (m == ("_inlets" : Str)) = false) (h2 : (m == ("_gates" : Str)) = false) : (webF i g).lookup m = none := by simp [webF, List.lookup, h1, h2]
theorem few_gv : ∀ gs : List Gt, (gs.flatMap Gt.gv).length ≤ 2 * gs.length
  | [] => Nat.le_refl _
  | g :: gs => by
    have : g.gv.length ≤ 2 := by cases g <;> (simp [Gt.gv])
    have := few_gv gs
    rw [List.flatMap_cons, List.length_append, List.length_cons]
    omega
theorem few_tk : ∀ gs : List Gt, (gs.flatMap Gt.tk).length ≤ 2 * gs.length
  | [] => Nat.le_refl _
  | g :: gs => by
    have : g.tk.length ≤ 2 := by cases g <;> (simp [Gt.tk])
    have := few_tk gs
    rw [List.flatMap_cons, List.length_append, List.length_cons]
    omega
def lanesOf (ins : List (Str × Str)) (gs : List Gt) : List Str := ins.map Prod.fst ++ gs.flatMap Gt.gv
def takenOf (gs : List Gt) : List Str := gs.flatMap Gt.tk
def outsOf (ins : List (Str × Str)) (gs : List Gt) : List Str := (lanesOf ins gs).filter fun x => !decide (x ∈ takenOf gs)
theorem stands_ok : ∀ {gs : List Gt} {L F : List Str} {s : Int}, Stands L F s gs → ∀ g ∈ gs, g.ok
  | [], _, _, _, _ => fun g h => (by cases h)
  | g :: r, _, _, _, h => fun g' hm => by
    rcases List.mem_cons.mp hm with rfl | hm
    · exact h.1
    · exact stands_ok h.2.2.2.2 g' hm
theorem web_nice {ins : List (Str × Str)} {gs : List Gt} (h : okWeb ins gs) : (Nice (.list (ins.map pyI)) 40000 2 ∧ Nice (.tuple (ins.map pyI)) 40000 2) ∧ Nice (.list (gs.map pyG)) 40000 2 ∧ Nice (.tuple (gs.map pyG)) 40000 2 :=
  ⟨ins_nice h.1.2.2.1 (by have := h.1.2.1; omega), gs_nice (stands_ok h.2.2) (by have := h.2.1; omega)⟩
theorem eq_ins {M : MS} {a b : List (Str × Str)} {q : D → Prop} (ha : Nice (.tuple (a.map pyI)) 40000 2) (hb : Nice (.tuple (b.map pyI)) 40000 2) (h : q (.bl (decide (a = b)))) : eqE M (.tup (a.map ilD)) (.tup (b.map ilD)) q :=
  ⟨_, _, by show (toPys (a.map ilD)).map PyData.tuple = _; rw [py_map pyI_py]; rfl, by show (toPys (b.map ilD)).map PyData.tuple = _; rw [py_map pyI_py]; rfl, ha.shaped (by decide), hb.shaped (by decide), by
    rw [PyData.eqv, eqv_ins]
    exact h⟩
theorem eq_gs {M : MS} {a b : List Gt} {q : D → Prop} (ha : Nice (.tuple (a.map pyG)) 40000 2) (hb : Nice (.tuple (b.map pyG)) 40000 2) (h : q (.bl (decide (a = b)))) : eqE M (.tup (a.map Gt.d)) (.tup (b.map Gt.d)) q :=
  ⟨_, _, by show (toPys (a.map Gt.d)).map PyData.tuple = _; rw [py_map pyG_py]; rfl, by show (toPys (b.map Gt.d)).map PyData.tuple = _; rw [py_map pyG_py]; rfl, ha.shaped (by decide), hb.shaped (by decide), by
    rw [PyData.eqv, eqv_gs]
    exact h⟩
end
end K08

set_option Elab.async false
set_option linter.all false
set_option maxRecDepth 100000
set_option maxHeartbeats 2000000
namespace K08
open PySem PySem.Spec PyProof.Rows L2 TV
section
variable {P : Program} {w : World} {K : PySem.W.Frag} {mg : Str → Option Value} {base : Heap}
theorem log_of {i : Int} {n : Nat} (h0 : 0 ≤ i) (h : i < 2 ^ n) (hn : 0 < n) : i.natAbs.log2 < n := by
  by_cases z : i.natAbs = 0
  · rw [z]; simpa using hn
  · refine (Nat.log2_lt z).mpr ?_
    have e : (i.natAbs : Int) < ((2 ^ n : Nat) : Int) := by
      rw [Int.natAbs_of_nonneg h0]; simpa using h
    exact Int.ofNat_lt.mp e
theorem mulW {i j : Int} (h0 : 0 ≤ i) (h : i < 2 ^ 1000) (g0 : 0 ≤ j) (g : j < 2 ^ 1000) : CMulW i j := by
  have := log_of h0 h (by decide)
  have := log_of g0 g (by decide)
  show _ + _ < 1000000
  omega
theorem atI_in {α : Type} {l : List α} {i : Int} (h0 : 0 ≤ i) (h1 : i < l.length) : ∃ c, l[i.toNat]? = some c ∧ atI l i = some c := by
  have hl : i.toNat < l.length := by omega
  refine ⟨l[i.toNat], List.getElem?_eq_getElem hl, ?_⟩
  unfold atI ixN
  rw [if_pos h0, if_pos h1]
  exact List.getElem?_eq_getElem hl
theorem str_len (z : Str) : z.cps.toList.length = z.length := Array.length_toList
/-! ### the pen -/
abbrev kC : Key := .inr "cells"
abbrev kA : Key := .inr "at"
abbrev kL : Key := .inr "left"
def pd (cs : List Int) (a l : Int) : List (Key × D) := [(kC, .lst (cs.map D.int)), (kA, .int a), (kL, .int l)]
theorem kCA : ¬ (kC = kA) := by decide +kernel
theorem kCL : ¬ (kC = kL) := by decide +kernel
theorem kAC : ¬ (kA = kC) := by decide +kernel
theorem kAL : ¬ (kA = kL) := by decide +kernel
theorem kLC : ¬ (kL = kC) := by decide +kernel
theorem kLA : ¬ (kL = kA) := by decide +kernel
theorem dict_pd {cs a l} : dictOf [(kC, .lst (cs.map D.int)), (kA, .int a), (kL, .int l)] = pd cs a l := by
  simp only [dictOf, pd, putD, List.foldl_cons, List.foldl_nil, List.any_nil, List.any_cons, List.nil_append, kCA, kCL, kAC, kAL, kLC, kLA, decide_false, Bool.or_false, Bool.false_eq_true, if_false, List.cons_append]
theorem pd_len {cs : List Int} {a l : Int} : (pd cs a l).length < 100000 := by show 3 < 100000; decide
theorem val_c {cs a l} : valD (pd cs a l) kC = some (.lst (cs.map D.int)) := by simp [valD, pd, List.find?]
theorem val_a {cs a l} : valD (pd cs a l) kA = some (.int a) := by simp only [valD, pd, List.find?, kCA, decide_false, decide_true]; rfl
theorem val_l {cs a l} : valD (pd cs a l) kL = some (.int l) := by simp only [valD, pd, List.find?, kCL, kAL, decide_false, decide_true]; rfl
theorem put_a {cs a l b} : putD (pd cs a l) kA (.int b) = pd cs b l := by simp only [putD, pd, List.any_cons, List.any_nil, kCA, kLA, decide_false, decide_true, Bool.false_or, Bool.true_or, if_true, List.map_cons, List.map_nil, if_false]
theorem put_l {cs a l b} : putD (pd cs a l) kL (.int b) = pd cs a b := by simp only [putD, pd, List.any_cons, List.any_nil, kCL, kAL, decide_false, decide_true, Bool.false_or, Bool.true_or, if_true, List.map_cons, List.map_nil, if_false]
theorem updM_updM {M : MS} {p : Addr} {m n : MO} : updM (updM M p m) p n = updM M p n := by
  funext b; unfold updM; split <;> rfl
theorem updM_at {M : MS} {p : Addr} {m : MO} : updM M p m p = some m := by simp [updM]
theorem updM_self {M : MS} {p : Addr} {m : MO} (h : M p = some m) : updM M p m = M := by
  funext b; unfold updM; split
  · rename_i e; rw [e, h]
  · rfl
section
variable {M : MS} {p : Addr} {cs : List Int} {a l : Int} (h : M p = some (.dct (pd cs a l)))
include h
theorem get_c {q} : dgetD M (.obj p) (.str "cells") q ↔ q (.lst (cs.map D.int)) :=
  ⟨fun ⟨es, k, c, e1, e2, e3, hq⟩ => by rw [vw_obj_dct h] at e1; cases e1; cases e2; rw [val_c] at e3; cases e3; exact hq, fun hq => ⟨_, _, _, vw_obj_dct h, rfl, val_c, hq⟩⟩
theorem get_a {q} : dgetD M (.obj p) (.str "at") q ↔ q (.int a) :=
  ⟨fun ⟨es, k, c, e1, e2, e3, hq⟩ => by rw [vw_obj_dct h] at e1; cases e1; cases e2; rw [val_a] at e3; cases e3; exact hq, fun hq => ⟨_, _, _, vw_obj_dct h, rfl, val_a, hq⟩⟩
theorem get_l {q} : dgetD M (.obj p) (.str "left") q ↔ q (.int l) :=
  ⟨fun ⟨es, k, c, e1, e2, e3, hq⟩ => by rw [vw_obj_dct h] at e1; cases e1; cases e2; rw [val_l] at e3; cases e3; exact hq, fun hq => ⟨_, _, _, vw_obj_dct h, rfl, val_l, hq⟩⟩
end
def penD (n : Nat) (es : List (Key × D)) : Prop := ∃ (cs : List Int) (a l : Int), es = pd cs a l ∧ cs.length ≤ 63 ∧ 0 ≤ a ∧ a ≤ (n : Int) ∧ 0 ≤ l
theorem penD.up {n m : Nat} {es} (h : penD n es) (hm : n ≤ m) : penD m es := by
  obtain ⟨cs, a, l, e, h1, h2, h3, h4⟩ := h
  exact ⟨cs, a, l, e, h1, h2, by omega, h4⟩
def sp__law_pen : DSp := fun ds M _ k => ds.length = 1 ∧ ∃ cs : List Int, ds = [.fro (cs.map D.int)] ∧ ∀ p es, M p = none → penD 0 es → k (.obj p) (updM M p (.dct es))
theorem ok__law_pen (T : Tx w K mg) : FnG P w K mg base CX0 1 T.f__law_pen T.e__law_pen ["_law_script"] (rSp K sp__law_pen) := by
  refine fnT T.d__law_pen.fn sc__law_pen (fun ds M x k h => h.1) (by decide) (fun cdv A outer s H E rm => ?_) (fun ds M x k h => h)
  refine ⟨_, (yss_one (ys_ret (xe_dictM (xps_cons (xl_frz (xl_list (by rfl) T.m_list (xa_cons (xl_frz (xl_slice (xv 0) xo_none (xo_some xint))) xa_nil))) (xps_cons xint (xps_cons xint xps_nil))) rfl rfl (by simp) (by decide) (by decide)))), ?_⟩
  intro ds M k h
  obtain ⟨-, cs, rfl, hk⟩ := h
  rw [show start0 ["_law_script"] [D.fro (cs.map D.int)] = [some (.fro (cs.map D.int))] from rfl]
  simp only [TV.wSeq, TV.wIf, TV.wOr, TV.wNot, TV.wAnd, TV.wAndV, TV.wOrV, TV.wNotV, TV.wIfE, TV.wTru, TV.wCB, TV.wCons, TV.wVar, TV.wC, TV.wNil, TV.wTest, TV.wChain, TV.wRet, TV.wRetN, TV.wNext, TV.wSet, TV.wDrop, TV.wFrz, TV.wMut, TV.wDisp, TV.wTup, TV.wOp, TV.wCall, TV.wDget, TV.wDput, TV.wFor, TV.wLc, TV.wiL, TV.wiT, TV.wiS, TV.wiR1, TV.wiR2, TV.wiEnumS, TV.wiEnum, TV.wgName, TV.wgTup, TV.wgCons, TV.wgNil, TV.wPar, TV.wPar3, TV.wAsg, TV.wUn, TV.wBM, TV.wApp, TV.wSetI, TV.wListC, TV.wSlL, TV.wSlS, TV.wSlT, TV.wNo, TV.wPart, TV.wYes, TV.wRev, TV.wMelt, TV.wNever, TV.wipe0, TV.wDictM, TV.wDictF, TV.wDict0F, TV.wPairs, List.getElem?_cons_zero, List.getElem?_cons_succ, List.set_cons_zero, List.set_cons_succ, Option.some.injEq, exists_eq_left', exists_eq_left, List.cons.injEq, and_true, true_and, TV.D.str.injEq, TV.D.int.injEq, TV.D.bl.injEq, TV.D.lst.injEq, TV.D.tup.injEq, TV.D.obj.injEq, List.map_cons, List.map_nil, TV.cmpD, TV.subD, TV.intD, TV.inSD, TV.ninSD, TV.isND, TV.notND, TV.isBD, TV.divmodC, TV.absC, isiC', TV.len_str, TV.len_lst, TV.len_tup, TV.tru_bl, TV.tru_int, TV.tru_str, TV.tru_lst, TV.tru_tup, TV.add_int, TV.add_str, TV.add_lst, TV.add_tup, TV.mul_int, TV.mul_str, TV.ix_str, TV.ix_lst, TV.ix_tup, TV.count_str, TV.eq_str, TV.ne_str, TV.eq_int, TV.ne_int, TV.eq_lst, TV.ne_lst, TV.sgx, TV.vw_non, TV.vw_bl, TV.vw_int, TV.vw_str, TV.vw_tup, TV.vw_lst, TV.vw_fro, TV.vw_dct, TV.key_str, TV.key_int, false_or, or_false, List.length_nil, TV.ty_non, TV.ty_bl, TV.ty_int, TV.ty_str, TV.ty_tup, TV.ty_lst, TV.ty_dct, TV.tn_str, TV.tn_int, TV.tn_bool, TV.tn_list, TV.tn_tuple, TV.tn_dict, TV.isT, String.reduceBEq, Bool.and_false, Bool.or_false, Bool.false_and, Bool.and_true, Bool.true_or, Bool.or_true, and_assoc, TV.D.ty.injEq, reduceCtorEq, exists_const, exists_and_left, exists_and_right, if_true, if_false, Bool.not_true, Bool.not_false, Bool.false_eq_true, reduceIte, TV.wExt, TV.wPop, TV.wPopAt, TV.wChg, TV.wAny, TV.wAug, TV.wWhile, TV.kgetD, TV.kinD, TV.wLenSet, TV.wLenO, TV.wEqO, TV.wMakeF, TV.wMeth, TV.wFld, TV.wSetF, TV.sumC, TV.minC, TV.maxC, TV.lcmC, TV.isiO, TV.wLc2, TV.wSlT, TV.wIsiT, List.append_nil, TV.wEither, TV.wGet2, TV.wDict1, TV.wDictZip, TV.sumIC, TV.wiZip, TV.wCallL, TV.mulTD]
  refine ⟨_, rfl, ?_⟩
  intro p hp
  have e : TV.cutD (cs.map D.int) none (some 63) = (cs.take 63).map D.int := by
    simp [TV.cutD, HT.sIx, List.map_take]
  rw [e, show dictOf _ = pd (cs.take 63) 0 0 from dict_pd]
  exact hk p _ hp ⟨_, 0, 0, rfl, by rw [List.length_take]; omega, by omega, by omega, by omega⟩
theorem ints_py : ∀ cs : List Int, toPys (cs.map D.int) = some (cs.map PyData.int)
  | [] => rfl
  | c :: cs => by simp [toPys, toPy, ints_py cs]
theorem ints_lay : ∀ cs : List Int, SeqAt.shaped (PyData.list (cs.map PyData.int)) = true := by
  intro cs
  have h1 : ∀ cs : List Int, PyData.canLayAll0 (cs.map PyData.int) = true := fun cs => by
    induction cs with
    | nil => rfl
    | cons c cs ih => simp [PyData.canLayAll0, PyData.canLay0, ih]
  have h2 : ∀ cs : List Int, PyData.depthAll (cs.map PyData.int) = 0 := fun cs => by
    induction cs with
    | nil => rfl
    | cons c cs ih => simp [PyData.depthAll, PyData.depth, ih]
  simp [SeqAt.shaped, PyData.canLay0, PyData.depth, h1, h2]
theorem eqv_nil (cs : List Int) : PyData.eqv (.list (cs.map PyData.int)) (.list []) = cs.isEmpty := by
  cases cs <;> simp [PyData.eqv, PyData.eqvAll]
theorem ne_nil {M : MS} {cs : List Int} {q} (hq : q (.bl (!cs.isEmpty))) : neD M (.lst (cs.map D.int)) (.lst []) q :=
  ⟨_, _, by show toPy (.lst _) = _; simp [toPy, ints_py], rfl, ints_lay cs, ints_lay [], by
    show q (.bl (!PyData.eqv (.list (cs.map PyData.int)) (.list []))); rw [eqv_nil]; exact hq⟩
theorem big_lt : (1000000000000000000000000 : Int) < 2 ^ 1000 := by decide +kernel
def sp__law_draw : DSp := fun ds M _ k => ds.length = 2 ∧ ∃ p m n es, ds = [.obj p, .int m] ∧ M p = some (.dct es) ∧ penD n es ∧ n < 1000000 ∧ 1 ≤ m ∧ m < 2 ^ 1000 ∧ ∀ r es', 0 ≤ r → r < m → penD (n + 1) es' → k (.int r) (updM M p (.dct es'))
theorem ok__law_draw (T : Tx w K mg) : FnG P w K mg base CX0 1 T.f__law_draw T.e__law_draw ["_law_pen_here", "_law_many"] (rSp K sp__law_draw) := by
  refine fnT T.d__law_draw.fn sc__law_draw (fun ds M x k h => h.1) (by decide) (fun cdv A outer s H E rm => ?_) (fun ds M x k h => h)
  refine ⟨_, (yss_cons (ys_if (xt_cmp op_gt l_cmpD (xe_dget rm.u1 (xv 0) xstr (fun _ _ => rfl)) xint (nomark _)) (yss_cons (ys_set (i := 2) sc__law_draw.nd rfl (by first | exact Or.inl rfl | exact Or.inr rfl) (xe_op op_mod l_intD (xe_dget rm.u1 (xv 0) xstr (fun _ _ => rfl)) (xv 1)))
      (yss_cons (ys_dput rm.u1 (xv 0) xstr (xe_op op_fdivW l_intD (xe_dget rm.u1 (xv 0) xstr (fun _ _ => rfl)) (xv 1)))
      (yss_one (ys_ret (xv 2))))) yss_nil)
      (yss_cons (ys_set (i := 3) sc__law_draw.nd rfl (by first | exact Or.inl rfl | exact Or.inr rfl) (xe_dget rm.u1 (xv 0) xstr (fun _ _ => rfl)))
      (yss_cons (ys_dput rm.u1 (xv 0) xstr (xe_op op_addD l_addD (xv 3) xint))
      (yss_cons (ys_set (i := 4) sc__law_draw.nd rfl (by first | exact Or.inl rfl | exact Or.inr rfl) (xe_op op_addD l_addD (xe_op op_mulD l_mulD xint (xv 3)) xint))
      (yss_cons (ys_if (xt_cmp (op_neE rm.u64) l_neE (xe_dget rm.u1 (xv 0) xstr (fun _ _ => rfl)) (xl_frz (xl_lst xa_nil)) (nomark _)) (yss_one (ys_set (i := 4) sc__law_draw.nd rfl (by first | exact Or.inl rfl | exact Or.inr rfl) (xe_ix (xe_dget rm.u1 (xv 0) xstr (fun _ _ => rfl)) (xe_op op_mod l_intD (xv 3) (xe_callB call_lenD' l_lenC (by rfl) T.m_len (by decide +kernel) (xa_cons (xe_dget rm.u1 (xv 0) xstr (fun _ _ => rfl)) xa_nil))) (fun _ _ => rfl)))) yss_nil)
      (yss_cons (ys_if (PW.pt (xw_and (xt_cmp op_lt l_cmpD (xv 3) (xe_callB call_lenD' l_lenC (by rfl) T.m_len (by decide +kernel) (xa_cons (xe_dget rm.u1 (xv 0) xstr (fun _ _ => rfl)) xa_nil)) (nomark _)) (xw_and1 (xt_cmp op_ge l_cmpD (xe_callB call_abs l_absC (by rfl) T.m_abs (by decide +kernel) (xa_cons (xv 4) xa_nil)) (xe_op op_pow l_intD xint xint) (nomark _))))) (yss_cons (ys_dput rm.u1 (xv 0) xstr (xe_op op_fdivW l_intD (xe_op op_sub l_subD (xe_callB call_abs l_absC (by rfl) T.m_abs (by decide +kernel) (xa_cons (xv 4) xa_nil)) (xe_op op_pow l_intD xint xint)) (xv 1)))
      (yss_one (ys_ret (xe_op op_mod l_intD (xe_op op_sub l_subD (xe_callB call_abs l_absC (by rfl) T.m_abs (by decide +kernel) (xa_cons (xv 4) xa_nil)) (xe_op op_pow l_intD xint xint)) (xv 1))))) yss_nil)
      (yss_cons (ys_set (i := 5) sc__law_draw.nd rfl (by first | exact Or.inl rfl | exact Or.inr rfl) (xe_op op_mod l_intD (xe_op op_addD l_addD (xe_op op_addD l_addD (xe_op op_addD l_addD (xe_op op_mulD l_mulD (xe_op op_mod l_intD (xv 4) xint) xint) (xe_op op_mulD l_mulD (xe_op op_mulD l_mulD xint (xv 3)) (xv 3))) (xe_op op_mulD l_mulD xint (xv 3))) xint) xint))
      (yss_cons (ys_set (i := 5) sc__law_draw.nd rfl (by first | exact Or.inl rfl | exact Or.inr rfl) (xe_op op_mod l_intD (xe_op op_addD l_addD (xe_op op_addD l_addD (xe_op op_addD l_addD (xe_op op_mulD l_mulD (xv 5) (xv 5)) (xe_op op_mulD l_mulD xint (xv 5))) (xe_op op_mulD l_mulD xint (xv 3))) xint) xint))
      (yss_one (ys_ret (xe_op op_mod l_intD (xe_op op_fdivW l_intD (xe_op op_mod l_intD (xe_op op_mulD l_mulD (xv 5) (xe_op op_addD l_addD (xv 5) xint)) xint) xint) (xv 1)))))))))))), ?_⟩
  intro ds M k h
  obtain ⟨-, p, m, n, es, rfl, hM, ⟨cs, a, l, rfl, hc, h0, hn, hl⟩, hn6, hm1, hm2, hk⟩ := h
  rw [show start0 ["_law_pen_here", "_law_many", "_law_digit", "_law_at", "_law_cell", "_law_blend"] [D.obj p, D.int m] = [some (.obj p), some (.int m), none, none, none, none] from rfl]
  simp only [TV.wSeq, TV.wIf, TV.wOr, TV.wNot, TV.wAnd, TV.wAndV, TV.wOrV, TV.wNotV, TV.wIfE, TV.wTru, TV.wCB, TV.wCons, TV.wVar, TV.wC, TV.wNil, TV.wTest, TV.wChain, TV.wRet, TV.wRetN, TV.wNext, TV.wSet, TV.wDrop, TV.wFrz, TV.wMut, TV.wDisp, TV.wTup, TV.wOp, TV.wCall, TV.wDget, TV.wDput, TV.wFor, TV.wLc, TV.wiL, TV.wiT, TV.wiS, TV.wiR1, TV.wiR2, TV.wiEnumS, TV.wiEnum, TV.wgName, TV.wgTup, TV.wgCons, TV.wgNil, TV.wPar, TV.wPar3, TV.wAsg, TV.wUn, TV.wBM, TV.wApp, TV.wSetI, TV.wListC, TV.wSlL, TV.wSlS, TV.wSlT, TV.wNo, TV.wPart, TV.wYes, TV.wRev, TV.wMelt, TV.wNever, TV.wipe0, TV.wDictM, TV.wDictF, TV.wDict0F, TV.wPairs, List.getElem?_cons_zero, List.getElem?_cons_succ, List.set_cons_zero, List.set_cons_succ, Option.some.injEq, exists_eq_left', exists_eq_left, List.cons.injEq, and_true, true_and, TV.D.str.injEq, TV.D.int.injEq, TV.D.bl.injEq, TV.D.lst.injEq, TV.D.tup.injEq, TV.D.obj.injEq, List.map_cons, List.map_nil, TV.cmpD, TV.subD, TV.intD, TV.inSD, TV.ninSD, TV.isND, TV.notND, TV.isBD, TV.divmodC, TV.absC, isiC', TV.len_str, TV.len_lst, TV.len_tup, TV.tru_bl, TV.tru_int, TV.tru_str, TV.tru_lst, TV.tru_tup, TV.add_int, TV.add_str, TV.add_lst, TV.add_tup, TV.mul_int, TV.mul_str, TV.ix_str, TV.ix_lst, TV.ix_tup, TV.count_str, TV.eq_str, TV.ne_str, TV.eq_int, TV.ne_int, TV.eq_lst, TV.ne_lst, TV.sgx, TV.vw_non, TV.vw_bl, TV.vw_int, TV.vw_str, TV.vw_tup, TV.vw_lst, TV.vw_fro, TV.vw_dct, TV.key_str, TV.key_int, false_or, or_false, List.length_nil, TV.ty_non, TV.ty_bl, TV.ty_int, TV.ty_str, TV.ty_tup, TV.ty_lst, TV.ty_dct, TV.tn_str, TV.tn_int, TV.tn_bool, TV.tn_list, TV.tn_tuple, TV.tn_dict, TV.isT, String.reduceBEq, Bool.and_false, Bool.or_false, Bool.false_and, Bool.and_true, Bool.true_or, Bool.or_true, and_assoc, TV.D.ty.injEq, reduceCtorEq, exists_const, exists_and_left, exists_and_right, if_true, if_false, Bool.not_true, Bool.not_false, Bool.false_eq_true, reduceIte, TV.wExt, TV.wPop, TV.wPopAt, TV.wChg, TV.wAny, TV.wAug, TV.wWhile, TV.kgetD, TV.kinD, TV.wLenSet, TV.wLenO, TV.wEqO, TV.wMakeF, TV.wMeth, TV.wFld, TV.wSetF, TV.sumC, TV.minC, TV.maxC, TV.lcmC, TV.isiO, TV.wLc2, TV.wSlT, TV.wIsiT, List.append_nil, TV.wEither, TV.wGet2, TV.wDict1, TV.wDictZip, TV.sumIC, TV.wiZip, TV.wCallL, TV.mulTD]
  simp only [get_l hM]
  simp only [TV.wSeq, TV.wIf, TV.wOr, TV.wNot, TV.wAnd, TV.wAndV, TV.wOrV, TV.wNotV, TV.wIfE, TV.wTru, TV.wCB, TV.wCons, TV.wVar, TV.wC, TV.wNil, TV.wTest, TV.wChain, TV.wRet, TV.wRetN, TV.wNext, TV.wSet, TV.wDrop, TV.wFrz, TV.wMut, TV.wDisp, TV.wTup, TV.wOp, TV.wCall, TV.wDget, TV.wDput, TV.wFor, TV.wLc, TV.wiL, TV.wiT, TV.wiS, TV.wiR1, TV.wiR2, TV.wiEnumS, TV.wiEnum, TV.wgName, TV.wgTup, TV.wgCons, TV.wgNil, TV.wPar, TV.wPar3, TV.wAsg, TV.wUn, TV.wBM, TV.wApp, TV.wSetI, TV.wListC, TV.wSlL, TV.wSlS, TV.wSlT, TV.wNo, TV.wPart, TV.wYes, TV.wRev, TV.wMelt, TV.wNever, TV.wipe0, TV.wDictM, TV.wDictF, TV.wDict0F, TV.wPairs, List.getElem?_cons_zero, List.getElem?_cons_succ, List.set_cons_zero, List.set_cons_succ, Option.some.injEq, exists_eq_left', exists_eq_left, List.cons.injEq, and_true, true_and, TV.D.str.injEq, TV.D.int.injEq, TV.D.bl.injEq, TV.D.lst.injEq, TV.D.tup.injEq, TV.D.obj.injEq, List.map_cons, List.map_nil, TV.cmpD, TV.subD, TV.intD, TV.inSD, TV.ninSD, TV.isND, TV.notND, TV.isBD, TV.divmodC, TV.absC, isiC', TV.len_str, TV.len_lst, TV.len_tup, TV.tru_bl, TV.tru_int, TV.tru_str, TV.tru_lst, TV.tru_tup, TV.add_int, TV.add_str, TV.add_lst, TV.add_tup, TV.mul_int, TV.mul_str, TV.ix_str, TV.ix_lst, TV.ix_tup, TV.count_str, TV.eq_str, TV.ne_str, TV.eq_int, TV.ne_int, TV.eq_lst, TV.ne_lst, TV.sgx, TV.vw_non, TV.vw_bl, TV.vw_int, TV.vw_str, TV.vw_tup, TV.vw_lst, TV.vw_fro, TV.vw_dct, TV.key_str, TV.key_int, false_or, or_false, List.length_nil, TV.ty_non, TV.ty_bl, TV.ty_int, TV.ty_str, TV.ty_tup, TV.ty_lst, TV.ty_dct, TV.tn_str, TV.tn_int, TV.tn_bool, TV.tn_list, TV.tn_tuple, TV.tn_dict, TV.isT, String.reduceBEq, Bool.and_false, Bool.or_false, Bool.false_and, Bool.and_true, Bool.true_or, Bool.or_true, and_assoc, TV.D.ty.injEq, reduceCtorEq, exists_const, exists_and_left, exists_and_right, if_true, if_false, Bool.not_true, Bool.not_false, Bool.false_eq_true, reduceIte, TV.wExt, TV.wPop, TV.wPopAt, TV.wChg, TV.wAny, TV.wAug, TV.wWhile, TV.kgetD, TV.kinD, TV.wLenSet, TV.wLenO, TV.wEqO, TV.wMakeF, TV.wMeth, TV.wFld, TV.wSetF, TV.sumC, TV.minC, TV.maxC, TV.lcmC, TV.isiO, TV.wLc2, TV.wSlT, TV.wIsiT, List.append_nil, TV.wEither, TV.wGet2, TV.wDict1, TV.wDictZip, TV.sumIC, TV.wiZip, TV.wCallL, TV.mulTD]
  have h18 : (10 : Int) ^ (18 : Nat) = 1000000000000000000 := by decide
  have w1 : ∀ {i j : Int}, 0 ≤ i → i < 2 ^ 1000 → 0 ≤ j → j < 2 ^ 1000 → CMulW i j := mulW
  have dw : CDivW ((l : Int)) m := ⟨by omega, by have := log_of (by omega : 0 ≤ m) hm2 (by decide); omega⟩
  have dv : ∀ i : Int, CDivW i m := fun i => dw
  by_cases hz : 0 < l
  · rw [decide_eq_true hz, if_pos rfl]
    refine ⟨by omega, dw, _, hM, pd_len, ?_⟩
    rw [put_l]
    exact hk _ _ (Int.emod_nonneg _ (by omega)) (Int.emod_lt_of_pos _ (by omega)) ⟨cs, a, l / m, rfl, hc, h0, by omega, Int.ediv_nonneg hl (by omega)⟩
  · rw [decide_eq_false hz, if_neg (by decide)]
    simp only [get_a hM]
    simp only [TV.wSeq, TV.wIf, TV.wOr, TV.wNot, TV.wAnd, TV.wAndV, TV.wOrV, TV.wNotV, TV.wIfE, TV.wTru, TV.wCB, TV.wCons, TV.wVar, TV.wC, TV.wNil, TV.wTest, TV.wChain, TV.wRet, TV.wRetN, TV.wNext, TV.wSet, TV.wDrop, TV.wFrz, TV.wMut, TV.wDisp, TV.wTup, TV.wOp, TV.wCall, TV.wDget, TV.wDput, TV.wFor, TV.wLc, TV.wiL, TV.wiT, TV.wiS, TV.wiR1, TV.wiR2, TV.wiEnumS, TV.wiEnum, TV.wgName, TV.wgTup, TV.wgCons, TV.wgNil, TV.wPar, TV.wPar3, TV.wAsg, TV.wUn, TV.wBM, TV.wApp, TV.wSetI, TV.wListC, TV.wSlL, TV.wSlS, TV.wSlT, TV.wNo, TV.wPart, TV.wYes, TV.wRev, TV.wMelt, TV.wNever, TV.wipe0, TV.wDictM, TV.wDictF, TV.wDict0F, TV.wPairs, List.getElem?_cons_zero, List.getElem?_cons_succ, List.set_cons_zero, List.set_cons_succ, Option.some.injEq, exists_eq_left', exists_eq_left, List.cons.injEq, and_true, true_and, TV.D.str.injEq, TV.D.int.injEq, TV.D.bl.injEq, TV.D.lst.injEq, TV.D.tup.injEq, TV.D.obj.injEq, List.map_cons, List.map_nil, TV.cmpD, TV.subD, TV.intD, TV.inSD, TV.ninSD, TV.isND, TV.notND, TV.isBD, TV.divmodC, TV.absC, isiC', TV.len_str, TV.len_lst, TV.len_tup, TV.tru_bl, TV.tru_int, TV.tru_str, TV.tru_lst, TV.tru_tup, TV.add_int, TV.add_str, TV.add_lst, TV.add_tup, TV.mul_int, TV.mul_str, TV.ix_str, TV.ix_lst, TV.ix_tup, TV.count_str, TV.eq_str, TV.ne_str, TV.eq_int, TV.ne_int, TV.eq_lst, TV.ne_lst, TV.sgx, TV.vw_non, TV.vw_bl, TV.vw_int, TV.vw_str, TV.vw_tup, TV.vw_lst, TV.vw_fro, TV.vw_dct, TV.key_str, TV.key_int, false_or, or_false, List.length_nil, TV.ty_non, TV.ty_bl, TV.ty_int, TV.ty_str, TV.ty_tup, TV.ty_lst, TV.ty_dct, TV.tn_str, TV.tn_int, TV.tn_bool, TV.tn_list, TV.tn_tuple, TV.tn_dict, TV.isT, String.reduceBEq, Bool.and_false, Bool.or_false, Bool.false_and, Bool.and_true, Bool.true_or, Bool.or_true, and_assoc, TV.D.ty.injEq, reduceCtorEq, exists_const, exists_and_left, exists_and_right, if_true, if_false, Bool.not_true, Bool.not_false, Bool.false_eq_true, reduceIte, TV.wExt, TV.wPop, TV.wPopAt, TV.wChg, TV.wAny, TV.wAug, TV.wWhile, TV.kgetD, TV.kinD, TV.wLenSet, TV.wLenO, TV.wEqO, TV.wMakeF, TV.wMeth, TV.wFld, TV.wSetF, TV.sumC, TV.minC, TV.maxC, TV.lcmC, TV.isiO, TV.wLc2, TV.wSlT, TV.wIsiT, List.append_nil, TV.wEither, TV.wGet2, TV.wDict1, TV.wDictZip, TV.sumIC, TV.wiZip, TV.wCallL, TV.mulTD]
    refine ⟨_, hM, pd_len, ?_⟩
    rw [put_a]
    have hM1 : updM M p (.dct (pd cs (a + 1) l)) p = some (.dct (pd cs (a + 1) l)) := updM_at
    generalize hMM : updM M p (.dct (pd cs (a + 1) l)) = M1 at hM1 ⊢
    simp only [get_c hM1, get_a hM1, get_l hM1]
    simp only [TV.wSeq, TV.wIf, TV.wOr, TV.wNot, TV.wAnd, TV.wAndV, TV.wOrV, TV.wNotV, TV.wIfE, TV.wTru, TV.wCB, TV.wCons, TV.wVar, TV.wC, TV.wNil, TV.wTest, TV.wChain, TV.wRet, TV.wRetN, TV.wNext, TV.wSet, TV.wDrop, TV.wFrz, TV.wMut, TV.wDisp, TV.wTup, TV.wOp, TV.wCall, TV.wDget, TV.wDput, TV.wFor, TV.wLc, TV.wiL, TV.wiT, TV.wiS, TV.wiR1, TV.wiR2, TV.wiEnumS, TV.wiEnum, TV.wgName, TV.wgTup, TV.wgCons, TV.wgNil, TV.wPar, TV.wPar3, TV.wAsg, TV.wUn, TV.wBM, TV.wApp, TV.wSetI, TV.wListC, TV.wSlL, TV.wSlS, TV.wSlT, TV.wNo, TV.wPart, TV.wYes, TV.wRev, TV.wMelt, TV.wNever, TV.wipe0, TV.wDictM, TV.wDictF, TV.wDict0F, TV.wPairs, List.getElem?_cons_zero, List.getElem?_cons_succ, List.set_cons_zero, List.set_cons_succ, Option.some.injEq, exists_eq_left', exists_eq_left, List.cons.injEq, and_true, true_and, TV.D.str.injEq, TV.D.int.injEq, TV.D.bl.injEq, TV.D.lst.injEq, TV.D.tup.injEq, TV.D.obj.injEq, List.map_cons, List.map_nil, TV.cmpD, TV.subD, TV.intD, TV.inSD, TV.ninSD, TV.isND, TV.notND, TV.isBD, TV.divmodC, TV.absC, isiC', TV.len_str, TV.len_lst, TV.len_tup, TV.tru_bl, TV.tru_int, TV.tru_str, TV.tru_lst, TV.tru_tup, TV.add_int, TV.add_str, TV.add_lst, TV.add_tup, TV.mul_int, TV.mul_str, TV.ix_str, TV.ix_lst, TV.ix_tup, TV.count_str, TV.eq_str, TV.ne_str, TV.eq_int, TV.ne_int, TV.eq_lst, TV.ne_lst, TV.sgx, TV.vw_non, TV.vw_bl, TV.vw_int, TV.vw_str, TV.vw_tup, TV.vw_lst, TV.vw_fro, TV.vw_dct, TV.key_str, TV.key_int, false_or, or_false, List.length_nil, TV.ty_non, TV.ty_bl, TV.ty_int, TV.ty_str, TV.ty_tup, TV.ty_lst, TV.ty_dct, TV.tn_str, TV.tn_int, TV.tn_bool, TV.tn_list, TV.tn_tuple, TV.tn_dict, TV.isT, String.reduceBEq, Bool.and_false, Bool.or_false, Bool.false_and, Bool.and_true, Bool.true_or, Bool.or_true, and_assoc, TV.D.ty.injEq, reduceCtorEq, exists_const, exists_and_left, exists_and_right, if_true, if_false, Bool.not_true, Bool.not_false, Bool.false_eq_true, reduceIte, TV.wExt, TV.wPop, TV.wPopAt, TV.wChg, TV.wAny, TV.wAug, TV.wWhile, TV.kgetD, TV.kinD, TV.wLenSet, TV.wLenO, TV.wEqO, TV.wMakeF, TV.wMeth, TV.wFld, TV.wSetF, TV.sumC, TV.minC, TV.maxC, TV.lcmC, TV.isiO, TV.wLc2, TV.wSlT, TV.wIsiT, List.append_nil, TV.wEither, TV.wGet2, TV.wDict1, TV.wDictZip, TV.sumIC, TV.wiZip, TV.wCallL, TV.mulTD]
    have fin : ∀ X : Int, k (.int (X % m)) M1 := fun X => hMM ▸ hk _ _ (Int.emod_nonneg _ (by omega)) (Int.emod_lt_of_pos _ (by omega)) ⟨cs, a + 1, l, rfl, hc, by omega, by omega, hl⟩
    have ms : ∀ {i j : Int}, 0 ≤ i → i < 1000000000000000000000000 → 0 ≤ j → j < 1000000000000000000000000 → CMulW i j := fun h1 h2 h3 h4 =>
      mulW h1 (Int.lt_trans h2 big_lt) h3 (Int.lt_trans h4 big_lt)
    have mb : ∀ {i b : Int}, 0 < b → 0 ≤ i % b ∧ i % b < b := fun hb => ⟨Int.emod_nonneg _ (by omega), Int.emod_lt_of_pos _ hb⟩
    have c32 : ∀ {i : Int}, CDivW i 32 := ⟨by decide, by decide +kernel⟩
    have c18 : CPow 10 18 := ⟨by decide, by decide, by decide⟩
    have h29 : CMulW 29 a := ms (by omega) (by omega) (by omega) (by omega)
    refine ⟨h29, by omega, ne_nil ?_⟩
    simp only [TV.wSeq, TV.wIf, TV.wOr, TV.wNot, TV.wAnd, TV.wAndV, TV.wOrV, TV.wNotV, TV.wIfE, TV.wTru, TV.wCB, TV.wCons, TV.wVar, TV.wC, TV.wNil, TV.wTest, TV.wChain, TV.wRet, TV.wRetN, TV.wNext, TV.wSet, TV.wDrop, TV.wFrz, TV.wMut, TV.wDisp, TV.wTup, TV.wOp, TV.wCall, TV.wDget, TV.wDput, TV.wFor, TV.wLc, TV.wiL, TV.wiT, TV.wiS, TV.wiR1, TV.wiR2, TV.wiEnumS, TV.wiEnum, TV.wgName, TV.wgTup, TV.wgCons, TV.wgNil, TV.wPar, TV.wPar3, TV.wAsg, TV.wUn, TV.wBM, TV.wApp, TV.wSetI, TV.wListC, TV.wSlL, TV.wSlS, TV.wSlT, TV.wNo, TV.wPart, TV.wYes, TV.wRev, TV.wMelt, TV.wNever, TV.wipe0, TV.wDictM, TV.wDictF, TV.wDict0F, TV.wPairs, List.getElem?_cons_zero, List.getElem?_cons_succ, List.set_cons_zero, List.set_cons_succ, Option.some.injEq, exists_eq_left', exists_eq_left, List.cons.injEq, and_true, true_and, TV.D.str.injEq, TV.D.int.injEq, TV.D.bl.injEq, TV.D.lst.injEq, TV.D.tup.injEq, TV.D.obj.injEq, List.map_cons, List.map_nil, TV.cmpD, TV.subD, TV.intD, TV.inSD, TV.ninSD, TV.isND, TV.notND, TV.isBD, TV.divmodC, TV.absC, isiC', TV.len_str, TV.len_lst, TV.len_tup, TV.tru_bl, TV.tru_int, TV.tru_str, TV.tru_lst, TV.tru_tup, TV.add_int, TV.add_str, TV.add_lst, TV.add_tup, TV.mul_int, TV.mul_str, TV.ix_str, TV.ix_lst, TV.ix_tup, TV.count_str, TV.eq_str, TV.ne_str, TV.eq_int, TV.ne_int, TV.eq_lst, TV.ne_lst, TV.sgx, TV.vw_non, TV.vw_bl, TV.vw_int, TV.vw_str, TV.vw_tup, TV.vw_lst, TV.vw_fro, TV.vw_dct, TV.key_str, TV.key_int, false_or, or_false, List.length_nil, TV.ty_non, TV.ty_bl, TV.ty_int, TV.ty_str, TV.ty_tup, TV.ty_lst, TV.ty_dct, TV.tn_str, TV.tn_int, TV.tn_bool, TV.tn_list, TV.tn_tuple, TV.tn_dict, TV.isT, String.reduceBEq, Bool.and_false, Bool.or_false, Bool.false_and, Bool.and_true, Bool.true_or, Bool.or_true, and_assoc, TV.D.ty.injEq, reduceCtorEq, exists_const, exists_and_left, exists_and_right, if_true, if_false, Bool.not_true, Bool.not_false, Bool.false_eq_true, reduceIte, TV.wExt, TV.wPop, TV.wPopAt, TV.wChg, TV.wAny, TV.wAug, TV.wWhile, TV.kgetD, TV.kinD, TV.wLenSet, TV.wLenO, TV.wEqO, TV.wMakeF, TV.wMeth, TV.wFld, TV.wSetF, TV.sumC, TV.minC, TV.maxC, TV.lcmC, TV.isiO, TV.wLc2, TV.wSlT, TV.wIsiT, List.append_nil, TV.wEither, TV.wGet2, TV.wDict1, TV.wDictZip, TV.sumIC, TV.wiZip, TV.wCallL, TV.mulTD]
    by_cases hcs : cs = []
    · subst hcs
      simp only [List.isEmpty_nil, Bool.not_true, Bool.false_eq_true, if_false, List.map_nil, List.length_nil]
      rw [if_neg (by rw [decide_eq_false (by omega)]; decide)]
      ((repeat' apply And.intro) <;> first | exact fin _ | decide +kernel | omega | exact ms (by omega) (by omega) (by omega) (by omega))
    · have hE : cs.isEmpty = false := by cases cs <;> simp_all
      have hpos : 0 < cs.length := List.length_pos_iff.mpr hcs
      rw [hE]
      simp only [TV.wSeq, TV.wIf, TV.wOr, TV.wNot, TV.wAnd, TV.wAndV, TV.wOrV, TV.wNotV, TV.wIfE, TV.wTru, TV.wCB, TV.wCons, TV.wVar, TV.wC, TV.wNil, TV.wTest, TV.wChain, TV.wRet, TV.wRetN, TV.wNext, TV.wSet, TV.wDrop, TV.wFrz, TV.wMut, TV.wDisp, TV.wTup, TV.wOp, TV.wCall, TV.wDget, TV.wDput, TV.wFor, TV.wLc, TV.wiL, TV.wiT, TV.wiS, TV.wiR1, TV.wiR2, TV.wiEnumS, TV.wiEnum, TV.wgName, TV.wgTup, TV.wgCons, TV.wgNil, TV.wPar, TV.wPar3, TV.wAsg, TV.wUn, TV.wBM, TV.wApp, TV.wSetI, TV.wListC, TV.wSlL, TV.wSlS, TV.wSlT, TV.wNo, TV.wPart, TV.wYes, TV.wRev, TV.wMelt, TV.wNever, TV.wipe0, TV.wDictM, TV.wDictF, TV.wDict0F, TV.wPairs, List.getElem?_cons_zero, List.getElem?_cons_succ, List.set_cons_zero, List.set_cons_succ, Option.some.injEq, exists_eq_left', exists_eq_left, List.cons.injEq, and_true, true_and, TV.D.str.injEq, TV.D.int.injEq, TV.D.bl.injEq, TV.D.lst.injEq, TV.D.tup.injEq, TV.D.obj.injEq, List.map_cons, List.map_nil, TV.cmpD, TV.subD, TV.intD, TV.inSD, TV.ninSD, TV.isND, TV.notND, TV.isBD, TV.divmodC, TV.absC, isiC', TV.len_str, TV.len_lst, TV.len_tup, TV.tru_bl, TV.tru_int, TV.tru_str, TV.tru_lst, TV.tru_tup, TV.add_int, TV.add_str, TV.add_lst, TV.add_tup, TV.mul_int, TV.mul_str, TV.ix_str, TV.ix_lst, TV.ix_tup, TV.count_str, TV.eq_str, TV.ne_str, TV.eq_int, TV.ne_int, TV.eq_lst, TV.ne_lst, TV.sgx, TV.vw_non, TV.vw_bl, TV.vw_int, TV.vw_str, TV.vw_tup, TV.vw_lst, TV.vw_fro, TV.vw_dct, TV.key_str, TV.key_int, false_or, or_false, List.length_nil, TV.ty_non, TV.ty_bl, TV.ty_int, TV.ty_str, TV.ty_tup, TV.ty_lst, TV.ty_dct, TV.tn_str, TV.tn_int, TV.tn_bool, TV.tn_list, TV.tn_tuple, TV.tn_dict, TV.isT, String.reduceBEq, Bool.and_false, Bool.or_false, Bool.false_and, Bool.and_true, Bool.true_or, Bool.or_true, and_assoc, TV.D.ty.injEq, reduceCtorEq, exists_const, exists_and_left, exists_and_right, if_true, if_false, Bool.not_true, Bool.not_false, Bool.false_eq_true, reduceIte, TV.wExt, TV.wPop, TV.wPopAt, TV.wChg, TV.wAny, TV.wAug, TV.wWhile, TV.kgetD, TV.kinD, TV.wLenSet, TV.wLenO, TV.wEqO, TV.wMakeF, TV.wMeth, TV.wFld, TV.wSetF, TV.sumC, TV.minC, TV.maxC, TV.lcmC, TV.isiO, TV.wLc2, TV.wSlT, TV.wIsiT, List.append_nil, TV.wEither, TV.wGet2, TV.wDict1, TV.wDictZip, TV.sumIC, TV.wiZip, TV.wCallL, TV.mulTD]
      obtain ⟨c, e1, e2⟩ := atI_in (l := cs.map D.int) (i := a % (cs.map D.int).length) (Int.emod_nonneg _ (by rw [List.length_map]; omega)) (Int.emod_lt_of_pos _ (by rw [List.length_map]; omega))
      have ⟨v, hv⟩ : ∃ v, c = D.int v := by
        rw [List.getElem?_map] at e1
        cases e3 : cs[(a % (cs.map D.int).length).toNat]? with
        | none => rw [e3] at e1; cases e1
        | some v => rw [e3] at e1; exact ⟨v, (Option.some.inj e1).symm⟩
      subst hv
      refine ⟨by rw [List.length_map]; omega, _, e2, ?_⟩
      rw [List.length_map]
      simp only [TV.wSeq, TV.wIf, TV.wOr, TV.wNot, TV.wAnd, TV.wAndV, TV.wOrV, TV.wNotV, TV.wIfE, TV.wTru, TV.wCB, TV.wCons, TV.wVar, TV.wC, TV.wNil, TV.wTest, TV.wChain, TV.wRet, TV.wRetN, TV.wNext, TV.wSet, TV.wDrop, TV.wFrz, TV.wMut, TV.wDisp, TV.wTup, TV.wOp, TV.wCall, TV.wDget, TV.wDput, TV.wFor, TV.wLc, TV.wiL, TV.wiT, TV.wiS, TV.wiR1, TV.wiR2, TV.wiEnumS, TV.wiEnum, TV.wgName, TV.wgTup, TV.wgCons, TV.wgNil, TV.wPar, TV.wPar3, TV.wAsg, TV.wUn, TV.wBM, TV.wApp, TV.wSetI, TV.wListC, TV.wSlL, TV.wSlS, TV.wSlT, TV.wNo, TV.wPart, TV.wYes, TV.wRev, TV.wMelt, TV.wNever, TV.wipe0, TV.wDictM, TV.wDictF, TV.wDict0F, TV.wPairs, List.getElem?_cons_zero, List.getElem?_cons_succ, List.set_cons_zero, List.set_cons_succ, Option.some.injEq, exists_eq_left', exists_eq_left, List.cons.injEq, and_true, true_and, TV.D.str.injEq, TV.D.int.injEq, TV.D.bl.injEq, TV.D.lst.injEq, TV.D.tup.injEq, TV.D.obj.injEq, List.map_cons, List.map_nil, TV.cmpD, TV.subD, TV.intD, TV.inSD, TV.ninSD, TV.isND, TV.notND, TV.isBD, TV.divmodC, TV.absC, isiC', TV.len_str, TV.len_lst, TV.len_tup, TV.tru_bl, TV.tru_int, TV.tru_str, TV.tru_lst, TV.tru_tup, TV.add_int, TV.add_str, TV.add_lst, TV.add_tup, TV.mul_int, TV.mul_str, TV.ix_str, TV.ix_lst, TV.ix_tup, TV.count_str, TV.eq_str, TV.ne_str, TV.eq_int, TV.ne_int, TV.eq_lst, TV.ne_lst, TV.sgx, TV.vw_non, TV.vw_bl, TV.vw_int, TV.vw_str, TV.vw_tup, TV.vw_lst, TV.vw_fro, TV.vw_dct, TV.key_str, TV.key_int, false_or, or_false, List.length_nil, TV.ty_non, TV.ty_bl, TV.ty_int, TV.ty_str, TV.ty_tup, TV.ty_lst, TV.ty_dct, TV.tn_str, TV.tn_int, TV.tn_bool, TV.tn_list, TV.tn_tuple, TV.tn_dict, TV.isT, String.reduceBEq, Bool.and_false, Bool.or_false, Bool.false_and, Bool.and_true, Bool.true_or, Bool.or_true, and_assoc, TV.D.ty.injEq, reduceCtorEq, exists_const, exists_and_left, exists_and_right, if_true, if_false, Bool.not_true, Bool.not_false, Bool.false_eq_true, reduceIte, TV.wExt, TV.wPop, TV.wPopAt, TV.wChg, TV.wAny, TV.wAug, TV.wWhile, TV.kgetD, TV.kinD, TV.wLenSet, TV.wLenO, TV.wEqO, TV.wMakeF, TV.wMeth, TV.wFld, TV.wSetF, TV.sumC, TV.minC, TV.maxC, TV.lcmC, TV.isiO, TV.wLc2, TV.wSlT, TV.wIsiT, List.append_nil, TV.wEither, TV.wGet2, TV.wDict1, TV.wDictZip, TV.sumIC, TV.wiZip, TV.wCallL, TV.mulTD]
      by_cases hin : a < (cs.length : Int)
      · simp only [hin, decide_true, if_true]
        refine ⟨c18, ?_⟩
        by_cases hbig : (10 : Int) ^ Int.toNat 18 ≤ if v < 0 then -v else v
        · simp only [hbig, decide_true, if_true]
          refine ⟨c18, dv _, _, hM1, pd_len, c18, by omega, ?_⟩
          rw [put_l, ← hMM, updM_updM]
          exact hk _ _ (Int.emod_nonneg _ (by omega)) (Int.emod_lt_of_pos _ (by omega)) ⟨cs, a + 1, _, rfl, hc, by omega, by omega, Int.ediv_nonneg (by omega) (by omega)⟩
        · simp only [hbig, decide_false, Bool.false_eq_true, if_false]
          ((repeat' apply And.intro) <;> first | exact fin _ | decide +kernel | omega | exact ms (by omega) (by omega) (by omega) (by omega))
      · simp only [hin, decide_false, Bool.false_eq_true, if_false]
        ((repeat' apply And.intro) <;> first | exact fin _ | decide +kernel | omega | exact ms (by omega) (by omega) (by omega) (by omega))

/-! what is picked -/
def itemsD : D → Option (List D)
  | .lst xs => some xs
  | .tup xs => some xs
  | .str z => if z.length ≤ 100000 then some (TV.signs z) else none
  | _ => none
theorem items_len {M : MS} {c : D} {xs : List D} (h : itemsD c = some xs) {q} (hq : q (.int xs.length)) : lenC M [c] q := by
  cases c <;> simp only [itemsD, reduceCtorEq] at h
  · split at h
    · cases h; rw [signs_len] at hq; rename_i hz; exact ⟨_, rfl, hz, hq⟩
    · cases h
  · cases h; exact ⟨_, rfl, hq⟩
  · cases h; exact ⟨_, rfl, hq⟩
theorem items_ix {M : MS} {c : D} {xs : List D} (h : itemsD c = some xs) {i : Int} (h0 : 0 ≤ i) (h1 : i < xs.length) {q} (hq : ∀ d ∈ xs, q d) : ixD M c (.int i) q := by
  cases c <;> simp only [itemsD, reduceCtorEq] at h
  · split at h
    · cases h; rename_i z hz
      rw [signs_len] at h1
      obtain ⟨c, e1, e2⟩ := atI_in (l := z.cps.toList) h0 (by rw [str_len]; exact h1)
      refine ⟨i, rfl, hz, c, e2, hq _ ?_⟩
      unfold TV.signs
      exact List.mem_map_of_mem (List.mem_of_getElem? e1)
    · cases h
  · cases h
    obtain ⟨c, e1, e2⟩ := atI_in h0 h1
    exact ⟨i, rfl, c, e2, hq c (List.mem_of_getElem? e1)⟩
  · cases h
    obtain ⟨c, e1, e2⟩ := atI_in h0 h1
    exact ⟨i, rfl, c, e2, hq c (List.mem_of_getElem? e1)⟩
def sp__law_pick : DSp := fun ds M _ k => ds.length = 2 ∧ ∃ p c xs n es, ds = [.obj p, c] ∧ itemsD c = some xs ∧ 1 ≤ xs.length ∧ xs.length ≤ 100000 ∧ M p = some (.dct es) ∧ penD n es ∧ n < 1000000 ∧ ∀ d es', d ∈ xs → penD (n + 1) es' → k d (updM M p (.dct es'))
theorem ok__law_pick (T : Tx w K mg) : FnG P w K mg base CX0 2 T.f__law_pick T.e__law_pick ["_law_pen_here", "_law_some"] (rSp K sp__law_pick) := by
  refine fnT T.d__law_pick.fn sc__law_pick (fun ds M x k h => h.1) (by decide) (fun cdv A outer s H E rm => ?_) (fun ds M x k h => h)
  refine ⟨_, (yss_one (ys_ret (xe_ix (xv 1) (xcall (ok__law_draw T) (rm.mono (by decide)) (by rfl) T.d__law_draw.gl T.d__law_draw.fn.kp T.d__law_draw.bi pass0 (xa_cons (xv 0) (xa_cons (xe_callB call_lenD' l_lenC (by rfl) T.m_len (by decide +kernel) (xa_cons (xv 1) xa_nil)) xa_nil))) (fun _ _ => rfl)))), ?_⟩
  intro ds M k h
  obtain ⟨-, p, c, xs, n, es, rfl, hi, h1, h2, hM, hp, hn, hk⟩ := h
  rw [show start0 ["_law_pen_here", "_law_some"] [D.obj p, c] = [some (.obj p), some c] from rfl]
  simp only [TV.wSeq, TV.wIf, TV.wOr, TV.wNot, TV.wAnd, TV.wAndV, TV.wOrV, TV.wNotV, TV.wIfE, TV.wTru, TV.wCB, TV.wCons, TV.wVar, TV.wC, TV.wNil, TV.wTest, TV.wChain, TV.wRet, TV.wRetN, TV.wNext, TV.wSet, TV.wDrop, TV.wFrz, TV.wMut, TV.wDisp, TV.wTup, TV.wOp, TV.wCall, TV.wDget, TV.wDput, TV.wFor, TV.wLc, TV.wiL, TV.wiT, TV.wiS, TV.wiR1, TV.wiR2, TV.wiEnumS, TV.wiEnum, TV.wgName, TV.wgTup, TV.wgCons, TV.wgNil, TV.wPar, TV.wPar3, TV.wAsg, TV.wUn, TV.wBM, TV.wApp, TV.wSetI, TV.wListC, TV.wSlL, TV.wSlS, TV.wSlT, TV.wNo, TV.wPart, TV.wYes, TV.wRev, TV.wMelt, TV.wNever, TV.wipe0, TV.wDictM, TV.wDictF, TV.wDict0F, TV.wPairs, List.getElem?_cons_zero, List.getElem?_cons_succ, List.set_cons_zero, List.set_cons_succ, Option.some.injEq, exists_eq_left', exists_eq_left, List.cons.injEq, and_true, true_and, TV.D.str.injEq, TV.D.int.injEq, TV.D.bl.injEq, TV.D.lst.injEq, TV.D.tup.injEq, TV.D.obj.injEq, List.map_cons, List.map_nil, TV.cmpD, TV.subD, TV.intD, TV.inSD, TV.ninSD, TV.isND, TV.notND, TV.isBD, TV.divmodC, TV.absC, isiC', TV.len_str, TV.len_lst, TV.len_tup, TV.tru_bl, TV.tru_int, TV.tru_str, TV.tru_lst, TV.tru_tup, TV.add_int, TV.add_str, TV.add_lst, TV.add_tup, TV.mul_int, TV.mul_str, TV.ix_str, TV.ix_lst, TV.ix_tup, TV.count_str, TV.eq_str, TV.ne_str, TV.eq_int, TV.ne_int, TV.eq_lst, TV.ne_lst, TV.sgx, TV.vw_non, TV.vw_bl, TV.vw_int, TV.vw_str, TV.vw_tup, TV.vw_lst, TV.vw_fro, TV.vw_dct, TV.key_str, TV.key_int, false_or, or_false, List.length_nil, TV.ty_non, TV.ty_bl, TV.ty_int, TV.ty_str, TV.ty_tup, TV.ty_lst, TV.ty_dct, TV.tn_str, TV.tn_int, TV.tn_bool, TV.tn_list, TV.tn_tuple, TV.tn_dict, TV.isT, String.reduceBEq, Bool.and_false, Bool.or_false, Bool.false_and, Bool.and_true, Bool.true_or, Bool.or_true, and_assoc, TV.D.ty.injEq, reduceCtorEq, exists_const, exists_and_left, exists_and_right, if_true, if_false, Bool.not_true, Bool.not_false, Bool.false_eq_true, reduceIte, TV.wExt, TV.wPop, TV.wPopAt, TV.wChg, TV.wAny, TV.wAug, TV.wWhile, TV.kgetD, TV.kinD, TV.wLenSet, TV.wLenO, TV.wEqO, TV.wMakeF, TV.wMeth, TV.wFld, TV.wSetF, TV.sumC, TV.minC, TV.maxC, TV.lcmC, TV.isiO, TV.wLc2, TV.wSlT, TV.wIsiT, List.append_nil, TV.wEither, TV.wGet2, TV.wDict1, TV.wDictZip, TV.sumIC, TV.wiZip, TV.wCallL, TV.mulTD]
  refine items_len hi ?_
  refine ⟨rfl, p, _, n, es, rfl, hM, hp, hn, by omega, Int.lt_of_le_of_lt (b := 100000) (by omega) (Int.lt_trans (by decide) big_lt), fun r es' r0 r1 pe => ?_⟩
  exact items_ix hi r0 r1 fun d hd => hk d es' hd pe
theorem join_list (ys : List Str) : (Txt.join ("" : Str) ys).cps.toList = ys.flatMap (·.cps.toList) := by
  have key : ∀ (l : List Str) (a : Array Nat), (l.foldl (fun acc p => acc ++ ("" : Str).cps ++ p.cps) a).toList = a.toList ++ l.flatMap (·.cps.toList) := by
    intro l
    induction l with
    | nil => intro a; simp
    | cons y l ih =>
      intro a
      rw [List.foldl_cons, ih]
      have : ("" : Str).cps = #[] := by decide +kernel
      rw [this]; simp
  cases ys with
  | nil => rfl
  | cons y l =>
    show (List.foldl (fun acc p => acc ++ ("" : Str).cps ++ p.cps) y.cps l).toList = _
    rw [key]; rfl
/-- a text of single signs -/
def ofCodes (l : List Nat) : Str := ⟨l.toArray⟩
theorem join_codes (l : List Nat) : Txt.join ("" : Str) (l.map fun c => (⟨#[c]⟩ : Str)) = ofCodes l := by
  have h := join_list (l.map fun c => (⟨#[c]⟩ : Str))
  have e : ∀ l : List Nat, (l.map fun c => (⟨#[c]⟩ : Str)).flatMap (·.cps.toList) = l := by
    intro l
    induction l with
    | nil => rfl
    | cons c l ih => rw [List.map_cons, List.flatMap_cons, ih]; rfl
  rw [e] at h
  cases hj : Txt.join ("" : Str) (l.map fun c => (⟨#[c]⟩ : Str)) with
  | mk cps => rw [hj] at h; unfold ofCodes; rw [← h]
theorem codes_len (l : List Nat) : (ofCodes l).length = l.length := by simp [ofCodes, Str.length]
theorem codes_list (l : List Nat) : (ofCodes l).cps.toList = l := by simp [ofCodes]
theorem sum_codes (l : List Nat) : ((l.map fun c => (⟨#[c]⟩ : Str)).map (·.length)).sum = l.length := by
  induction l with
  | nil => rfl
  | cons c l ih => simp only [List.map_cons, List.sum_cons, List.length_cons, ih]; show 1 + _ = _; omega
theorem del_upd {M : MS} {q : Addr} {m : MO} (h : M q = none) : delM (updM M q m) q = M := by
  funext b
  unfold delM updM
  split
  · rename_i e; rw [e, h]
  · rfl
theorem app_list (a b : Str) : (a ++ b).cps.toList = a.cps.toList ++ b.cps.toList := by
  show (a.cps ++ b.cps).toList = _
  exact Array.toList_append
theorem cutS_list (z : Str) (lo hi : Option Int) : (cutS z lo hi).cps.toList = (z.cps.toList.drop (HT.sIx z.length 0 lo)).take (HT.sIx z.length z.length hi - HT.sIx z.length 0 lo) := by simp [cutS]
theorem cut_to {z : Str} {a : Int} (h : 0 ≤ a) : (cutS z none (some a)).cps.toList = z.cps.toList.take a.toNat := by
  rw [cutS_list]
  simp only [HT.sIx, List.drop_zero, Nat.sub_zero]
  rw [if_neg (by omega)]
  by_cases e : a.toNat ≤ z.length
  · rw [Nat.min_eq_left e]
  · rw [Nat.min_eq_right (by omega), List.take_of_length_le (by rw [str_len]; exact Nat.le_refl _), List.take_of_length_le (by rw [str_len]; omega)]
theorem cut_from {z : Str} {a : Int} (h : 0 ≤ a) : (cutS z (some a) none).cps.toList = z.cps.toList.drop a.toNat := by
  rw [cutS_list]
  simp only [HT.sIx]
  rw [if_neg (by omega)]
  by_cases e : a.toNat ≤ z.length
  · rw [Nat.min_eq_left e, List.take_of_length_le (by rw [List.length_drop, str_len]; exact Nat.le_refl _)]
  · rw [Nat.min_eq_right (by omega), Nat.sub_self, List.take_zero, List.drop_of_length_le (by rw [str_len]; omega)]
theorem use_draw {M0 : MS} {p : Addr} {es : List (Key × D)} {n : Nat} {m : Int} {x : XD} {k : KD} (hp : penD n es) (hn : n < 1000000) (h1 : 1 ≤ m) (h2 : m < 2 ^ 1000)
    (hk : ∀ r es', 0 ≤ r → r < m → penD (n + 1) es' → k (.int r) (updM M0 p (.dct es'))) : sp__law_draw [.obj p, .int m] (updM M0 p (.dct es)) x k :=
  ⟨rfl, p, m, n, es, rfl, updM_at, hp, hn, h1, h2, fun r es' a b c => by rw [updM_updM]; exact hk r es' a b c⟩
theorem use_pick {M0 : MS} {p : Addr} {es : List (Key × D)} {n : Nat} {c : D} {xs : List D} {x : XD} {k : KD} (hp : penD n es) (hn : n < 1000000) (hi : itemsD c = some xs) (h1 : 1 ≤ xs.length) (h2 : xs.length ≤ 100000)
    (hk : ∀ d es', d ∈ xs → penD (n + 1) es' → k d (updM M0 p (.dct es'))) : sp__law_pick [.obj p, c] (updM M0 p (.dct es)) x k :=
  ⟨rfl, p, c, xs, n, es, rfl, hi, h1, h2, updM_at, hp, hn, fun d es' a b => by rw [updM_updM]; exact hk d es' a b⟩
theorem small_lt {m : Int} (h : m < 1000000) : m < 2 ^ 1000 := Int.lt_trans h (Int.lt_trans (by decide) big_lt)
theorem items_str {z : Str} (h : z.length ≤ 100000) : itemsD (.str z) = some (TV.signs z) := by simp [itemsD, h]
theorem mem_signs {z : Str} {d : D} (h : d ∈ TV.signs z) : ∃ c, c ∈ z.cps.toList ∧ d = .str ⟨#[c]⟩ := by
  unfold TV.signs at h
  obtain ⟨c, hc, e⟩ := List.mem_map.mp h
  exact ⟨c, hc, e.symm⟩
def sp__law_names : DSp := fun ds M _ k => ds.length = 2 ∧ ∃ p many n es, ds = [.obj p, .int many] ∧ M p = some (.dct es) ∧ penD n es ∧ n < 900000 ∧ 0 ≤ many ∧ many ≤ 26 ∧
  ∀ (ns : List Str) es' q, (ns.length : Int) = many → (∀ s ∈ ns, okName s) → ns.Nodup → penD (n + 13) es' → M q = none → k (.obj q) (updM (updM M p (.dct es')) q (.lst (ns.map .str)))
theorem ok__law_names (T : Tx w K mg) : FnG P w K mg base CX0 3 T.f__law_names T.e__law_names ["_law_pen_here", "_law_many"] (rSp K sp__law_names) := by
  refine fnT T.d__law_names.fn sc__law_names (fun ds M x k h => h.1) (by decide) (fun cdv A outer s H E rm => ?_) (fun ds M x k h => h)
  refine ⟨_, (yss_cons (ys_set (i := 2) sc__law_names.nd rfl (by first | exact Or.inl rfl | exact Or.inr rfl) xstr)
      (yss_cons (ys_set (i := 3) sc__law_names.nd rfl (by first | exact Or.inl rfl | exact Or.inr rfl) (xe_bm PySem.F.plainAttrs_str PySem.F.slot_str_join PySem.F.type_str_join mt_join l_joinM (by decide) xstr (xa_cons (xl_frz (xl_lc (own := [("_law_k", 9)]) (g := gName 9) rfl sc__law_names.nd (xi_range1 (by rfl) T.m_range (xa_cons (xe_op op_addD l_addD xint (xcall (ok__law_draw T) (rm.mono (by decide)) (by rfl) T.d__law_draw.gl T.d__law_draw.fn.kp T.d__law_draw.bi pass0 (xa_cons (xv 0) (xa_cons xint xa_nil)))) xa_nil)) (blkOk_by (N := ["_law_pen_here", "_law_many", "_law_letters", "_law_word", "_law_at", "_law_first", "_law_short", "_law_by", "_law_found", "_law_k", "_law_tail"]) (sc := defScope s__law_names) (by decide +kernel)) (tg_name (by decide)) (fun _ _ _ _ _ => pg_name (i := 9) sc__law_names.nd rfl (by first | exact Or.inl rfl | exact Or.inr rfl)) (fun _ _ _ _ _ => xts_nil) (fun _ _ _ _ _ => (xcall (ok__law_pick T) (rm.mono (by decide)) (by rfl) T.d__law_pick.gl T.d__law_pick.fn.kp T.d__law_pick.bi pass0 (xa_cons (xv 0) (xa_cons (xv 2) xa_nil)))))) xa_nil)))
      (yss_cons (ys_par3 (i := 4) (j := 5) (l := 6) rfl sc__law_names.nd rfl rfl rfl (by decide) (by decide) (by decide) rfl rfl rfl (xa_cons (xcall (ok__law_draw T) (rm.mono (by decide)) (by rfl) T.d__law_draw.gl T.d__law_draw.fn.kp T.d__law_draw.bi pass0 (xa_cons (xv 0) (xa_cons (xe_callB call_lenD' l_lenC (by rfl) T.m_len (by decide +kernel) (xa_cons (xv 3) xa_nil)) xa_nil))) (xa_cons (xcall (ok__law_draw T) (rm.mono (by decide)) (by rfl) T.d__law_draw.gl T.d__law_draw.fn.kp T.d__law_draw.bi pass0 (xa_cons (xv 0) (xa_cons xint xa_nil))) (xa_cons (xcall (ok__law_draw T) (rm.mono (by decide)) (by rfl) T.d__law_draw.gl T.d__law_draw.fn.kp T.d__law_draw.bi pass0 (xa_cons (xv 0) (xa_cons xint xa_nil))) xa_nil))) (by rfl))
      (yss_cons (ys_par (i := 7) (j := 8) rfl sc__law_names.nd rfl rfl (by decide) rfl rfl (xa_cons (xcall (ok__law_pick T) (rm.mono (by decide)) (by rfl) T.d__law_pick.gl T.d__law_pick.fn.kp T.d__law_pick.bi pass0 (xa_cons (xv 0) (xa_cons (xl_frz (xl_lst (xa_cons xint (xa_cons xint (xa_cons xint (xa_cons xint (xa_cons xint (xa_cons xint (xa_cons xint (xa_cons xint (xa_cons xint (xa_cons xint (xa_cons xint (xa_cons xint xa_nil)))))))))))))) xa_nil))) (xa_cons (xl_mut (xl_lst xa_nil)) xa_nil)) (by rfl))
      (yss_cons (ys_for PassesOwn.never rfl (xi_range1 (by rfl) T.m_range (xa_cons (xv 1) xa_nil)) (xg_name (i := 9) sc__law_names.nd rfl (by first | exact Or.inl rfl | exact Or.inr rfl)) (yss_cons (ys_set (i := 10) sc__law_names.nd rfl (by first | exact Or.inl rfl | exact Or.inr rfl) (xe_sliceS (xe_sliceS (xv 3) (xo_some (xe_op op_addD l_addD (xv 4) xint)) xo_none) xo_none (xo_some (xe_ix (xl_frz (xl_lst (xa_cons xint (xa_cons (xe_op op_mod l_intD (xv 9) xint) xa_nil)))) (xv 6) (fun _ _ => rfl)))))
      (yss_one (ys_expr (xe_append (xv 8) (xe_op op_addD l_addD (xe_op op_addD l_addD (xe_sliceS (xv 3) xo_none (xo_some (xv 4))) (xe_ix (xv 2) (xe_op op_mod l_intD (xe_op op_addD l_addD (xv 5) (xe_op op_mulD l_mulD (xv 7) (xv 9))) xint) (fun _ _ => rfl))) (xv 10)))))))
      (yss_one (ys_ret (xe_either (xmelt 8) (xv 8))))))))), ?_⟩
  intro ds M k h
  obtain ⟨-, p, many, n, es, rfl, hM, hp, hn, hm0, hm1, hk⟩ := h
  rw [show start0 ["_law_pen_here", "_law_many", "_law_letters", "_law_word", "_law_at", "_law_first", "_law_short", "_law_by", "_law_found", "_law_k", "_law_tail"] [D.obj p, D.int many] = [some (.obj p), some (.int many), none, none, none, none, none, none, none, none, none] from rfl]
  obtain ⟨M0, rfl⟩ : ∃ M0, M = updM M0 p (.dct es) := ⟨M, (updM_self hM).symm⟩
  simp only [updM_updM] at hk
  simp only [TV.wSeq, TV.wIf, TV.wOr, TV.wNot, TV.wAnd, TV.wAndV, TV.wOrV, TV.wNotV, TV.wIfE, TV.wTru, TV.wCB, TV.wCons, TV.wVar, TV.wC, TV.wNil, TV.wTest, TV.wChain, TV.wRet, TV.wRetN, TV.wNext, TV.wSet, TV.wDrop, TV.wFrz, TV.wMut, TV.wDisp, TV.wTup, TV.wOp, TV.wCall, TV.wDget, TV.wDput, TV.wFor, TV.wLc, TV.wiL, TV.wiT, TV.wiS, TV.wiR1, TV.wiR2, TV.wiEnumS, TV.wiEnum, TV.wgName, TV.wgTup, TV.wgCons, TV.wgNil, TV.wPar, TV.wPar3, TV.wAsg, TV.wUn, TV.wBM, TV.wApp, TV.wSetI, TV.wListC, TV.wSlL, TV.wSlS, TV.wSlT, TV.wNo, TV.wPart, TV.wYes, TV.wRev, TV.wMelt, TV.wNever, TV.wipe0, TV.wDictM, TV.wDictF, TV.wDict0F, TV.wPairs, List.getElem?_cons_zero, List.getElem?_cons_succ, List.set_cons_zero, List.set_cons_succ, Option.some.injEq, exists_eq_left', exists_eq_left, List.cons.injEq, and_true, true_and, TV.D.str.injEq, TV.D.int.injEq, TV.D.bl.injEq, TV.D.lst.injEq, TV.D.tup.injEq, TV.D.obj.injEq, List.map_cons, List.map_nil, TV.cmpD, TV.subD, TV.intD, TV.inSD, TV.ninSD, TV.isND, TV.notND, TV.isBD, TV.divmodC, TV.absC, isiC', TV.len_str, TV.len_lst, TV.len_tup, TV.tru_bl, TV.tru_int, TV.tru_str, TV.tru_lst, TV.tru_tup, TV.add_int, TV.add_str, TV.add_lst, TV.add_tup, TV.mul_int, TV.mul_str, TV.ix_str, TV.ix_lst, TV.ix_tup, TV.count_str, TV.eq_str, TV.ne_str, TV.eq_int, TV.ne_int, TV.eq_lst, TV.ne_lst, TV.sgx, TV.vw_non, TV.vw_bl, TV.vw_int, TV.vw_str, TV.vw_tup, TV.vw_lst, TV.vw_fro, TV.vw_dct, TV.key_str, TV.key_int, false_or, or_false, List.length_nil, TV.ty_non, TV.ty_bl, TV.ty_int, TV.ty_str, TV.ty_tup, TV.ty_lst, TV.ty_dct, TV.tn_str, TV.tn_int, TV.tn_bool, TV.tn_list, TV.tn_tuple, TV.tn_dict, TV.isT, String.reduceBEq, Bool.and_false, Bool.or_false, Bool.false_and, Bool.and_true, Bool.true_or, Bool.or_true, and_assoc, TV.D.ty.injEq, reduceCtorEq, exists_const, exists_and_left, exists_and_right, if_true, if_false, Bool.not_true, Bool.not_false, Bool.false_eq_true, reduceIte, TV.wExt, TV.wPop, TV.wPopAt, TV.wChg, TV.wAny, TV.wAug, TV.wWhile, TV.kgetD, TV.kinD, TV.wLenSet, TV.wLenO, TV.wEqO, TV.wMakeF, TV.wMeth, TV.wFld, TV.wSetF, TV.sumC, TV.minC, TV.maxC, TV.lcmC, TV.isiO, TV.wLc2, TV.wSlT, TV.wIsiT, List.append_nil, TV.wEither, TV.wGet2, TV.wDict1, TV.wDictZip, TV.sumIC, TV.wiZip, TV.wCallL, TV.mulTD]
  refine use_draw hp (by omega) (by decide) (small_lt (by decide)) fun r es1 r0 r1 p1 => ?_
  simp only [TV.wSeq, TV.wIf, TV.wOr, TV.wNot, TV.wAnd, TV.wAndV, TV.wOrV, TV.wNotV, TV.wIfE, TV.wTru, TV.wCB, TV.wCons, TV.wVar, TV.wC, TV.wNil, TV.wTest, TV.wChain, TV.wRet, TV.wRetN, TV.wNext, TV.wSet, TV.wDrop, TV.wFrz, TV.wMut, TV.wDisp, TV.wTup, TV.wOp, TV.wCall, TV.wDget, TV.wDput, TV.wFor, TV.wLc, TV.wiL, TV.wiT, TV.wiS, TV.wiR1, TV.wiR2, TV.wiEnumS, TV.wiEnum, TV.wgName, TV.wgTup, TV.wgCons, TV.wgNil, TV.wPar, TV.wPar3, TV.wAsg, TV.wUn, TV.wBM, TV.wApp, TV.wSetI, TV.wListC, TV.wSlL, TV.wSlS, TV.wSlT, TV.wNo, TV.wPart, TV.wYes, TV.wRev, TV.wMelt, TV.wNever, TV.wipe0, TV.wDictM, TV.wDictF, TV.wDict0F, TV.wPairs, List.getElem?_cons_zero, List.getElem?_cons_succ, List.set_cons_zero, List.set_cons_succ, Option.some.injEq, exists_eq_left', exists_eq_left, List.cons.injEq, and_true, true_and, TV.D.str.injEq, TV.D.int.injEq, TV.D.bl.injEq, TV.D.lst.injEq, TV.D.tup.injEq, TV.D.obj.injEq, List.map_cons, List.map_nil, TV.cmpD, TV.subD, TV.intD, TV.inSD, TV.ninSD, TV.isND, TV.notND, TV.isBD, TV.divmodC, TV.absC, isiC', TV.len_str, TV.len_lst, TV.len_tup, TV.tru_bl, TV.tru_int, TV.tru_str, TV.tru_lst, TV.tru_tup, TV.add_int, TV.add_str, TV.add_lst, TV.add_tup, TV.mul_int, TV.mul_str, TV.ix_str, TV.ix_lst, TV.ix_tup, TV.count_str, TV.eq_str, TV.ne_str, TV.eq_int, TV.ne_int, TV.eq_lst, TV.ne_lst, TV.sgx, TV.vw_non, TV.vw_bl, TV.vw_int, TV.vw_str, TV.vw_tup, TV.vw_lst, TV.vw_fro, TV.vw_dct, TV.key_str, TV.key_int, false_or, or_false, List.length_nil, TV.ty_non, TV.ty_bl, TV.ty_int, TV.ty_str, TV.ty_tup, TV.ty_lst, TV.ty_dct, TV.tn_str, TV.tn_int, TV.tn_bool, TV.tn_list, TV.tn_tuple, TV.tn_dict, TV.isT, String.reduceBEq, Bool.and_false, Bool.or_false, Bool.false_and, Bool.and_true, Bool.true_or, Bool.or_true, and_assoc, TV.D.ty.injEq, reduceCtorEq, exists_const, exists_and_left, exists_and_right, if_true, if_false, Bool.not_true, Bool.not_false, Bool.false_eq_true, reduceIte, TV.wExt, TV.wPop, TV.wPopAt, TV.wChg, TV.wAny, TV.wAug, TV.wWhile, TV.kgetD, TV.kinD, TV.wLenSet, TV.wLenO, TV.wEqO, TV.wMakeF, TV.wMeth, TV.wFld, TV.wSetF, TV.sumC, TV.minC, TV.maxC, TV.lcmC, TV.isiO, TV.wLc2, TV.wSlT, TV.wIsiT, List.append_nil, TV.wEither, TV.wGet2, TV.wDict1, TV.wDictZip, TV.sumIC, TV.wiZip, TV.wCallL, TV.mulTD]
  refine ⟨by omega, by omega, by rw [rng_len]; omega, fun i acc M' => ∃ (l : List Nat) (es' : List (Key × D)), l.length = i ∧ (∀ c ∈ l, c ∈ abc) ∧ acc = l.map (fun c => D.str ⟨#[c]⟩) ∧ penD (n + 1 + i) es' ∧ M' = updM M0 p (.dct es'), ⟨[], es1, rfl, by simp, rfl, p1, rfl⟩, ?_, ?_⟩
  · rintro i d acc M' hi ⟨l, es', hl, hc, rfl, p2, rfl⟩
    obtain ⟨hi, rfl⟩ := rng_get hi
    refine use_pick p2 (by omega) (items_str (by decide +kernel)) (by rw [signs_len]; decide +kernel) (by rw [signs_len]; decide +kernel) fun d es2 hd p3 => ?_
    obtain ⟨c, hc1, rfl⟩ := mem_signs hd
    exact ⟨l ++ [c], es2, by simp [hl], by
      intro b hb
      rcases List.mem_append.mp hb with hb | hb
      · exact hc b hb
      · rw [List.mem_singleton.mp hb]; exact hc1, by simp, p3, rfl⟩
  · rintro acc M' ⟨l, es', hl, hc, rfl, p2, rfl⟩
    rw [rng_len] at hl p2
    have hl8 : l.length ≤ 8 := by omega
    refine ⟨_, _, l.map (fun c => (⟨#[c]⟩ : Str)), rfl, rfl, .inl (by rw [List.map_map]; rfl), ?_, ?_⟩
    · rw [sum_codes]; simp only [List.length_map]; show _ + _ * 0 ≤ _; omega
    rw [join_codes]
    have wl : (ofCodes l).length = l.length := codes_len l
    have wc : (ofCodes l).cps.toList = l := codes_list l
    generalize ofCodes l = z at wl wc
    simp only [TV.wSeq, TV.wIf, TV.wOr, TV.wNot, TV.wAnd, TV.wAndV, TV.wOrV, TV.wNotV, TV.wIfE, TV.wTru, TV.wCB, TV.wCons, TV.wVar, TV.wC, TV.wNil, TV.wTest, TV.wChain, TV.wRet, TV.wRetN, TV.wNext, TV.wSet, TV.wDrop, TV.wFrz, TV.wMut, TV.wDisp, TV.wTup, TV.wOp, TV.wCall, TV.wDget, TV.wDput, TV.wFor, TV.wLc, TV.wiL, TV.wiT, TV.wiS, TV.wiR1, TV.wiR2, TV.wiEnumS, TV.wiEnum, TV.wgName, TV.wgTup, TV.wgCons, TV.wgNil, TV.wPar, TV.wPar3, TV.wAsg, TV.wUn, TV.wBM, TV.wApp, TV.wSetI, TV.wListC, TV.wSlL, TV.wSlS, TV.wSlT, TV.wNo, TV.wPart, TV.wYes, TV.wRev, TV.wMelt, TV.wNever, TV.wipe0, TV.wDictM, TV.wDictF, TV.wDict0F, TV.wPairs, List.getElem?_cons_zero, List.getElem?_cons_succ, List.set_cons_zero, List.set_cons_succ, Option.some.injEq, exists_eq_left', exists_eq_left, List.cons.injEq, and_true, true_and, TV.D.str.injEq, TV.D.int.injEq, TV.D.bl.injEq, TV.D.lst.injEq, TV.D.tup.injEq, TV.D.obj.injEq, List.map_cons, List.map_nil, TV.cmpD, TV.subD, TV.intD, TV.inSD, TV.ninSD, TV.isND, TV.notND, TV.isBD, TV.divmodC, TV.absC, isiC', TV.len_str, TV.len_lst, TV.len_tup, TV.tru_bl, TV.tru_int, TV.tru_str, TV.tru_lst, TV.tru_tup, TV.add_int, TV.add_str, TV.add_lst, TV.add_tup, TV.mul_int, TV.mul_str, TV.ix_str, TV.ix_lst, TV.ix_tup, TV.count_str, TV.eq_str, TV.ne_str, TV.eq_int, TV.ne_int, TV.eq_lst, TV.ne_lst, TV.sgx, TV.vw_non, TV.vw_bl, TV.vw_int, TV.vw_str, TV.vw_tup, TV.vw_lst, TV.vw_fro, TV.vw_dct, TV.key_str, TV.key_int, false_or, or_false, List.length_nil, TV.ty_non, TV.ty_bl, TV.ty_int, TV.ty_str, TV.ty_tup, TV.ty_lst, TV.ty_dct, TV.tn_str, TV.tn_int, TV.tn_bool, TV.tn_list, TV.tn_tuple, TV.tn_dict, TV.isT, String.reduceBEq, Bool.and_false, Bool.or_false, Bool.false_and, Bool.and_true, Bool.true_or, Bool.or_true, and_assoc, TV.D.ty.injEq, reduceCtorEq, exists_const, exists_and_left, exists_and_right, if_true, if_false, Bool.not_true, Bool.not_false, Bool.false_eq_true, reduceIte, TV.wExt, TV.wPop, TV.wPopAt, TV.wChg, TV.wAny, TV.wAug, TV.wWhile, TV.kgetD, TV.kinD, TV.wLenSet, TV.wLenO, TV.wEqO, TV.wMakeF, TV.wMeth, TV.wFld, TV.wSetF, TV.sumC, TV.minC, TV.maxC, TV.lcmC, TV.isiO, TV.wLc2, TV.wSlT, TV.wIsiT, List.append_nil, TV.wEither, TV.wGet2, TV.wDict1, TV.wDictZip, TV.sumIC, TV.wiZip, TV.wCallL, TV.mulTD]
    refine ⟨by omega, ?_⟩
    refine use_draw p2 (by omega) (by omega) (small_lt (by omega)) fun at' es2 a0 a1 p3 => ?_
    refine use_draw p3 (by omega) (by decide) (small_lt (by decide)) fun first es3 f0 f1 p4 => ?_
    refine use_draw p4 (by omega) (by decide) (small_lt (by decide)) fun short es4 s0 s1 p5 => ?_
    refine ⟨by decide, ?_⟩
    refine use_pick p5 (by omega) rfl (by decide) (by decide) fun dby es5 hby p6 => ?_
    obtain ⟨by', rfl, b0, b1, apart⟩ : ∃ b : Int, dby = .int b ∧ 0 ≤ b ∧ b ≤ 25 ∧ ∀ i j : Nat, i < 26 → j < 26 → (first + b * (0 + (i : Int))) % 26 = (first + b * (0 + (j : Int))) % 26 → i = j := by
      simp only [List.mem_cons, List.not_mem_nil, or_false] at hby
      rcases hby with h | h | h | h | h | h | h | h | h | h | h | h <;> exact ⟨_, h, by decide, by decide, fun i j _ _ _ => by omega⟩
    refine ⟨by omega, fun q hq => ⟨by omega, by omega, fun i ρ M' => ∃ (ns : List Str) (dk dt : Option D), ns.length = i ∧ (∀ s ∈ ns, okName s) ∧ (∀ (j : Nat) (s : Str), ns[j]? = some s → s.cps.toList[at'.toNat]? = abc[((first + by' * (0 + (j : Int))) % 26).toNat]?) ∧ ρ = [some (.obj p), some (.int many), some (.str "abcdefghijklmnopqrstuvwxyz"), some (.str z), some (.int at'), some (.int first), some (.int short), some (.int by'), some (.obj q), dk, dt] ∧ M' = updM (updM M0 p (.dct es5)) q (.lst (ns.map D.str)), ⟨[], none, none, rfl, by simp, by simp, rfl, rfl⟩, ?_, ?_⟩⟩
    · rintro i d ρ M' hi ⟨ns, dk, dt, hn1, hn2, hn3, rfl, rfl⟩
      obtain ⟨hi, rfl⟩ := rng_get hi
      simp only [TV.wSeq, TV.wIf, TV.wOr, TV.wNot, TV.wAnd, TV.wAndV, TV.wOrV, TV.wNotV, TV.wIfE, TV.wTru, TV.wCB, TV.wCons, TV.wVar, TV.wC, TV.wNil, TV.wTest, TV.wChain, TV.wRet, TV.wRetN, TV.wNext, TV.wSet, TV.wDrop, TV.wFrz, TV.wMut, TV.wDisp, TV.wTup, TV.wOp, TV.wCall, TV.wDget, TV.wDput, TV.wFor, TV.wLc, TV.wiL, TV.wiT, TV.wiS, TV.wiR1, TV.wiR2, TV.wiEnumS, TV.wiEnum, TV.wgName, TV.wgTup, TV.wgCons, TV.wgNil, TV.wPar, TV.wPar3, TV.wAsg, TV.wUn, TV.wBM, TV.wApp, TV.wSetI, TV.wListC, TV.wSlL, TV.wSlS, TV.wSlT, TV.wNo, TV.wPart, TV.wYes, TV.wRev, TV.wMelt, TV.wNever, TV.wipe0, TV.wDictM, TV.wDictF, TV.wDict0F, TV.wPairs, List.getElem?_cons_zero, List.getElem?_cons_succ, List.set_cons_zero, List.set_cons_succ, Option.some.injEq, exists_eq_left', exists_eq_left, List.cons.injEq, and_true, true_and, TV.D.str.injEq, TV.D.int.injEq, TV.D.bl.injEq, TV.D.lst.injEq, TV.D.tup.injEq, TV.D.obj.injEq, List.map_cons, List.map_nil, TV.cmpD, TV.subD, TV.intD, TV.inSD, TV.ninSD, TV.isND, TV.notND, TV.isBD, TV.divmodC, TV.absC, isiC', TV.len_str, TV.len_lst, TV.len_tup, TV.tru_bl, TV.tru_int, TV.tru_str, TV.tru_lst, TV.tru_tup, TV.add_int, TV.add_str, TV.add_lst, TV.add_tup, TV.mul_int, TV.mul_str, TV.ix_str, TV.ix_lst, TV.ix_tup, TV.count_str, TV.eq_str, TV.ne_str, TV.eq_int, TV.ne_int, TV.eq_lst, TV.ne_lst, TV.sgx, TV.vw_non, TV.vw_bl, TV.vw_int, TV.vw_str, TV.vw_tup, TV.vw_lst, TV.vw_fro, TV.vw_dct, TV.key_str, TV.key_int, false_or, or_false, List.length_nil, TV.ty_non, TV.ty_bl, TV.ty_int, TV.ty_str, TV.ty_tup, TV.ty_lst, TV.ty_dct, TV.tn_str, TV.tn_int, TV.tn_bool, TV.tn_list, TV.tn_tuple, TV.tn_dict, TV.isT, String.reduceBEq, Bool.and_false, Bool.or_false, Bool.false_and, Bool.and_true, Bool.true_or, Bool.or_true, and_assoc, TV.D.ty.injEq, reduceCtorEq, exists_const, exists_and_left, exists_and_right, if_true, if_false, Bool.not_true, Bool.not_false, Bool.false_eq_true, reduceIte, TV.wExt, TV.wPop, TV.wPopAt, TV.wChg, TV.wAny, TV.wAug, TV.wWhile, TV.kgetD, TV.kinD, TV.wLenSet, TV.wLenO, TV.wEqO, TV.wMakeF, TV.wMeth, TV.wFld, TV.wSetF, TV.sumC, TV.minC, TV.maxC, TV.lcmC, TV.isiO, TV.wLc2, TV.wSlT, TV.wIsiT, List.append_nil, TV.wEither, TV.wGet2, TV.wDict1, TV.wDictZip, TV.sumIC, TV.wiZip, TV.wCallL, TV.mulTD]
      obtain ⟨t, ht0, hat⟩ : ∃ t : Int, 0 ≤ t ∧ atI [D.int 8, D.int ((0 + (i : Int)) % 3)] short = some (.int t) := by
        rcases (by omega : short = 0 ∨ short = 1) with e | e <;> subst e
        · exact ⟨8, by decide, rfl⟩
        · exact ⟨_, Int.emod_nonneg _ (by decide), rfl⟩
      have hL : ("abcdefghijklmnopqrstuvwxyz" : Str).cps.toList.length = 26 := by decide +kernel
      obtain ⟨c, e1, e2⟩ := atI_in (l := ("abcdefghijklmnopqrstuvwxyz" : Str).cps.toList) (i := (first + by' * (0 + (i : Int))) % 26) (Int.emod_nonneg _ (by decide)) (by rw [hL]; exact Int.emod_lt_of_pos _ (by decide))
      have hcm : c ∈ abc := List.mem_of_getElem? e1
      have t1 : (cutS z none (some at')).cps.toList = l.take at'.toNat := by rw [cut_to a0, wc]
      have t2 : (cutS (cutS z (some (at' + 1)) none) none (some t)).cps.toList = (l.drop (at' + 1).toNat).take t.toNat := by rw [cut_to ht0, cut_from (by omega), wc]
      have t3 : (cutS z (some (at' + 1)) none).cps.toList = l.drop (at' + 1).toNat := by rw [cut_from (by omega), wc]
      have l1 : (cutS z none (some at')).length = min at'.toNat l.length := by rw [← str_len, t1, List.length_take]
      have l2 : (cutS (cutS z (some (at' + 1)) none) none (some t)).length = min t.toNat (l.length - (at' + 1).toNat) := by rw [← str_len, t2, List.length_take, List.length_drop]
      have l3 : (cutS z (some (at' + 1)) none).length = l.length - (at' + 1).toNat := by rw [← str_len, t3, List.length_drop]
      have l4 : (⟨#[c]⟩ : Str).length = 1 := rfl
      have hlong : ns.length < 100000 := by omega
      refine ⟨by omega, by decide, (show 2 ≤ 100000 by decide), _, hat, t, rfl, by omega, ⟨_, updM_at⟩, by omega, mulW b0 (small_lt (by omega)) (by omega) (small_lt (by omega)), by decide, by decide +kernel, c, e2, by omega, by rw [len_app]; omega, _, updM_at, by rw [List.length_map]; exact hlong, ns ++ [cutS z none (some at') ++ ⟨#[c]⟩ ++ cutS (cutS z (some (at' + 1)) none) none (some t)], by simp [hn1], ?_, ?_, by rw [updM_updM, List.map_append]; rfl⟩
      intro s hs
      rcases List.mem_append.mp hs with hs | hs
      · exact hn2 s hs
      · rw [List.mem_singleton.mp hs]
        refine ⟨by rw [len_app, len_app]; omega, by rw [len_app, len_app]; omega, fun b hb => ?_⟩
        rw [app_list, app_list, t1, t2] at hb
        rcases List.mem_append.mp hb with hb | hb
        · rcases List.mem_append.mp hb with hb | hb
          · exact hc b (List.mem_of_mem_take hb)
          · rw [List.mem_singleton.mp hb]; exact hcm
        · exact hc b (List.mem_of_mem_drop (List.mem_of_mem_take hb))
      intro j s hj
      rw [List.getElem?_append] at hj
      split at hj
      · exact hn3 j s hj
      · have e0 : j - ns.length = 0 := by
          have := (List.getElem?_eq_some_iff.mp hj).1
          rw [List.length_singleton] at this
          omega
        rw [e0] at hj
        cases hj
        have ej : j = i := by omega
        rw [app_list, app_list, t1, t2, List.append_assoc, List.getElem?_append_right (by rw [List.length_take]; omega), List.length_take, Nat.min_eq_left (by omega), Nat.sub_self, ej]
        exact e1.symm
    · rintro ρ M' ⟨ns, dk, dt, hn1, hn2, hn3, rfl, rfl⟩
      rw [rng_len] at hn1
      refine .inr ⟨_, rfl, ?_⟩
      refine hk ns es5 q (by omega) hn2 ?_ (p6.up (by omega)) ?_
      · refine List.pairwise_iff_getElem.mpr fun i j li jl ij e => ?_
        have e1 := hn3 i _ (List.getElem?_eq_getElem li)
        have e2 := hn3 j _ (List.getElem?_eq_getElem jl)
        rw [e, e2] at e1
        have hL : abc.length = 26 := by decide +kernel
        have hN : abc.Nodup := by decide +kernel
        have m1 : 0 ≤ (first + by' * (0 + (i : Int))) % 26 ∧ (first + by' * (0 + (i : Int))) % 26 < 26 := ⟨Int.emod_nonneg _ (by decide), Int.emod_lt_of_pos _ (by decide)⟩
        have m2 : 0 ≤ (first + by' * (0 + (j : Int))) % 26 ∧ (first + by' * (0 + (j : Int))) % 26 < 26 := ⟨Int.emod_nonneg _ (by decide), Int.emod_lt_of_pos _ (by decide)⟩
        have := (List.getElem?_inj (by omega) hN).mp e1
        have := apart i j (by omega) (by omega) (by omega)
        omega
      · by_cases pq : q = p
        · subst pq; rw [updM_at] at hq; cases hq
        · rw [updM_ne pq] at hq ⊢; exact hq
def sp__law_rhythm : DSp := fun ds M _ k => ds.length = 1 ∧ ∃ p n es, ds = [.obj p] ∧ M p = some (.dct es) ∧ penD n es ∧ n < 900000 ∧
  ∀ z es', okRh z → penD (n + 8) es' → k (.str z) (updM M p (.dct es'))
theorem updM_comm {M : MS} {p q : Addr} {m n : MO} (h : p ≠ q) : updM (updM M p m) q n = updM (updM M q n) p m := by
  funext b
  unfold updM
  split <;> split <;> first | rfl | (rename_i e f; exact absurd (f.symm.trans e) h)
theorem len_obj {M : MS} {q : Addr} {ds : List D} {k : D → Prop} (h : M q = some (.lst ds)) (hk : k (.int ds.length)) : lenC M [.obj q] k :=
  ⟨_, rfl, by rw [vw_obj_lst h]; exact hk⟩
theorem ok__law_rhythm (T : Tx w K mg) : FnG P w K mg base CX0 3 T.f__law_rhythm T.e__law_rhythm ["_law_pen_here"] (rSp K sp__law_rhythm) := by
  refine fnT T.d__law_rhythm.fn sc__law_rhythm (fun ds M x k h => h.1) (by decide) (fun cdv A outer s H E rm => ?_) (fun ds M x k h => h)
  refine ⟨_, (yss_cons (ys_setLcM (i := 1) (own := [("_law_k", 2)]) (g := gName 2) rfl sc__law_rhythm.nd rfl rfl (sw_true rfl rfl rfl (by decide +kernel)) (xi_range1 (by rfl) T.m_range (xa_cons (xe_op op_addD l_addD xint (xcall (ok__law_draw T) (rm.mono (by decide)) (by rfl) T.d__law_draw.gl T.d__law_draw.fn.kp T.d__law_draw.bi pass0 (xa_cons (xv 0) (xa_cons xint xa_nil)))) xa_nil)) (blkOk_by (N := ["_law_pen_here", "_law_signs", "_law_k"]) (sc := defScope s__law_rhythm) (by decide +kernel)) (tg_name (by decide)) (fun _ _ _ _ _ => pg_name (i := 2) sc__law_rhythm.nd rfl (by first | exact Or.inl rfl | exact Or.inr rfl)) (fun _ _ _ _ _ => xts_nil) (fun _ _ _ _ _ => (xcall (ok__law_pick T) (rm.mono (by decide)) (by rfl) T.d__law_pick.gl T.d__law_pick.fn.kp T.d__law_pick.bi pass0 (xa_cons (xv 0) (xa_cons (xl_frz (xl_lst (xa_cons xstr (xa_cons xstr (xa_cons xstr xa_nil))))) xa_nil)))))
      (yss_cons (ys_seti xstr (xv 1) (xcall (ok__law_draw T) (rm.mono (by decide)) (by rfl) T.d__law_draw.gl T.d__law_draw.fn.kp T.d__law_draw.bi pass0 (xa_cons (xv 0) (xa_cons (xe_callB call_lenD' l_lenC (by rfl) T.m_len (by decide +kernel) (xa_cons (xv 1) xa_nil)) xa_nil))))
      (yss_one (ys_ret (xe_bm PySem.F.plainAttrs_str PySem.F.slot_str_join PySem.F.type_str_join mt_join l_joinM (by decide) xstr (xa_cons (xmelt 1) xa_nil)))))), ?_⟩
  intro ds M k h
  obtain ⟨-, p, n, es, rfl, hM, hp, hn, hk⟩ := h
  rw [show start0 ["_law_pen_here", "_law_signs", "_law_k"] [D.obj p] = [some (.obj p), none, none] from rfl]
  obtain ⟨M0, rfl⟩ : ∃ M0, M = updM M0 p (.dct es) := ⟨M, (updM_self hM).symm⟩
  simp only [updM_updM] at hk
  simp only [TV.wSeq, TV.wIf, TV.wOr, TV.wNot, TV.wAnd, TV.wAndV, TV.wOrV, TV.wNotV, TV.wIfE, TV.wTru, TV.wCB, TV.wCons, TV.wVar, TV.wC, TV.wNil, TV.wTest, TV.wChain, TV.wRet, TV.wRetN, TV.wNext, TV.wSet, TV.wDrop, TV.wFrz, TV.wMut, TV.wDisp, TV.wTup, TV.wOp, TV.wCall, TV.wDget, TV.wDput, TV.wFor, TV.wLc, TV.wiL, TV.wiT, TV.wiS, TV.wiR1, TV.wiR2, TV.wiEnumS, TV.wiEnum, TV.wgName, TV.wgTup, TV.wgCons, TV.wgNil, TV.wPar, TV.wPar3, TV.wAsg, TV.wUn, TV.wBM, TV.wApp, TV.wSetI, TV.wListC, TV.wSlL, TV.wSlS, TV.wSlT, TV.wNo, TV.wPart, TV.wYes, TV.wRev, TV.wMelt, TV.wNever, TV.wipe0, TV.wDictM, TV.wDictF, TV.wDict0F, TV.wPairs, List.getElem?_cons_zero, List.getElem?_cons_succ, List.set_cons_zero, List.set_cons_succ, Option.some.injEq, exists_eq_left', exists_eq_left, List.cons.injEq, and_true, true_and, TV.D.str.injEq, TV.D.int.injEq, TV.D.bl.injEq, TV.D.lst.injEq, TV.D.tup.injEq, TV.D.obj.injEq, List.map_cons, List.map_nil, TV.cmpD, TV.subD, TV.intD, TV.inSD, TV.ninSD, TV.isND, TV.notND, TV.isBD, TV.divmodC, TV.absC, isiC', TV.len_str, TV.len_lst, TV.len_tup, TV.tru_bl, TV.tru_int, TV.tru_str, TV.tru_lst, TV.tru_tup, TV.add_int, TV.add_str, TV.add_lst, TV.add_tup, TV.mul_int, TV.mul_str, TV.ix_str, TV.ix_lst, TV.ix_tup, TV.count_str, TV.eq_str, TV.ne_str, TV.eq_int, TV.ne_int, TV.eq_lst, TV.ne_lst, TV.sgx, TV.vw_non, TV.vw_bl, TV.vw_int, TV.vw_str, TV.vw_tup, TV.vw_lst, TV.vw_fro, TV.vw_dct, TV.key_str, TV.key_int, false_or, or_false, List.length_nil, TV.ty_non, TV.ty_bl, TV.ty_int, TV.ty_str, TV.ty_tup, TV.ty_lst, TV.ty_dct, TV.tn_str, TV.tn_int, TV.tn_bool, TV.tn_list, TV.tn_tuple, TV.tn_dict, TV.isT, String.reduceBEq, Bool.and_false, Bool.or_false, Bool.false_and, Bool.and_true, Bool.true_or, Bool.or_true, and_assoc, TV.D.ty.injEq, reduceCtorEq, exists_const, exists_and_left, exists_and_right, if_true, if_false, Bool.not_true, Bool.not_false, Bool.false_eq_true, reduceIte, TV.wExt, TV.wPop, TV.wPopAt, TV.wChg, TV.wAny, TV.wAug, TV.wWhile, TV.kgetD, TV.kinD, TV.wLenSet, TV.wLenO, TV.wEqO, TV.wMakeF, TV.wMeth, TV.wFld, TV.wSetF, TV.sumC, TV.minC, TV.maxC, TV.lcmC, TV.isiO, TV.wLc2, TV.wSlT, TV.wIsiT, List.append_nil, TV.wEither, TV.wGet2, TV.wDict1, TV.wDictZip, TV.sumIC, TV.wiZip, TV.wCallL, TV.mulTD]
  refine use_draw hp (by omega) (by decide) (small_lt (by decide)) fun r es1 r0 r1 p1 => ?_
  simp only [TV.wSeq, TV.wIf, TV.wOr, TV.wNot, TV.wAnd, TV.wAndV, TV.wOrV, TV.wNotV, TV.wIfE, TV.wTru, TV.wCB, TV.wCons, TV.wVar, TV.wC, TV.wNil, TV.wTest, TV.wChain, TV.wRet, TV.wRetN, TV.wNext, TV.wSet, TV.wDrop, TV.wFrz, TV.wMut, TV.wDisp, TV.wTup, TV.wOp, TV.wCall, TV.wDget, TV.wDput, TV.wFor, TV.wLc, TV.wiL, TV.wiT, TV.wiS, TV.wiR1, TV.wiR2, TV.wiEnumS, TV.wiEnum, TV.wgName, TV.wgTup, TV.wgCons, TV.wgNil, TV.wPar, TV.wPar3, TV.wAsg, TV.wUn, TV.wBM, TV.wApp, TV.wSetI, TV.wListC, TV.wSlL, TV.wSlS, TV.wSlT, TV.wNo, TV.wPart, TV.wYes, TV.wRev, TV.wMelt, TV.wNever, TV.wipe0, TV.wDictM, TV.wDictF, TV.wDict0F, TV.wPairs, List.getElem?_cons_zero, List.getElem?_cons_succ, List.set_cons_zero, List.set_cons_succ, Option.some.injEq, exists_eq_left', exists_eq_left, List.cons.injEq, and_true, true_and, TV.D.str.injEq, TV.D.int.injEq, TV.D.bl.injEq, TV.D.lst.injEq, TV.D.tup.injEq, TV.D.obj.injEq, List.map_cons, List.map_nil, TV.cmpD, TV.subD, TV.intD, TV.inSD, TV.ninSD, TV.isND, TV.notND, TV.isBD, TV.divmodC, TV.absC, isiC', TV.len_str, TV.len_lst, TV.len_tup, TV.tru_bl, TV.tru_int, TV.tru_str, TV.tru_lst, TV.tru_tup, TV.add_int, TV.add_str, TV.add_lst, TV.add_tup, TV.mul_int, TV.mul_str, TV.ix_str, TV.ix_lst, TV.ix_tup, TV.count_str, TV.eq_str, TV.ne_str, TV.eq_int, TV.ne_int, TV.eq_lst, TV.ne_lst, TV.sgx, TV.vw_non, TV.vw_bl, TV.vw_int, TV.vw_str, TV.vw_tup, TV.vw_lst, TV.vw_fro, TV.vw_dct, TV.key_str, TV.key_int, false_or, or_false, List.length_nil, TV.ty_non, TV.ty_bl, TV.ty_int, TV.ty_str, TV.ty_tup, TV.ty_lst, TV.ty_dct, TV.tn_str, TV.tn_int, TV.tn_bool, TV.tn_list, TV.tn_tuple, TV.tn_dict, TV.isT, String.reduceBEq, Bool.and_false, Bool.or_false, Bool.false_and, Bool.and_true, Bool.true_or, Bool.or_true, and_assoc, TV.D.ty.injEq, reduceCtorEq, exists_const, exists_and_left, exists_and_right, if_true, if_false, Bool.not_true, Bool.not_false, Bool.false_eq_true, reduceIte, TV.wExt, TV.wPop, TV.wPopAt, TV.wChg, TV.wAny, TV.wAug, TV.wWhile, TV.kgetD, TV.kinD, TV.wLenSet, TV.wLenO, TV.wEqO, TV.wMakeF, TV.wMeth, TV.wFld, TV.wSetF, TV.sumC, TV.minC, TV.maxC, TV.lcmC, TV.isiO, TV.wLc2, TV.wSlT, TV.wIsiT, List.append_nil, TV.wEither, TV.wGet2, TV.wDict1, TV.wDictZip, TV.sumIC, TV.wiZip, TV.wCallL, TV.mulTD]
  refine ⟨by omega, by omega, by rw [rng_len]; omega, fun i acc M' => ∃ (l : List Nat) (es' : List (Key × D)), l.length = i ∧ (∀ c ∈ l, c = 120 ∨ c = 45) ∧ acc = l.map (fun c => D.str ⟨#[c]⟩) ∧ penD (n + 1 + i) es' ∧ M' = updM M0 p (.dct es'), ⟨[], es1, rfl, by simp, rfl, p1, rfl⟩, ?_, ?_⟩
  · rintro i d acc M' hi ⟨l, es', hl, hc, rfl, p2, rfl⟩
    obtain ⟨hi, rfl⟩ := rng_get hi
    refine ⟨by decide, ?_⟩
    refine use_pick p2 (by omega) rfl (by decide) (by decide) fun d es2 hd p3 => ?_
    have ⟨c, hc1, hc2⟩ : ∃ c, d = D.str ⟨#[c]⟩ ∧ (c = 120 ∨ c = 45) := by
      have e1 : ("x" : Str) = ⟨#[120]⟩ := x_eq
      have e2 : ("-" : Str) = ⟨#[45]⟩ := by decide +kernel
      simp only [List.mem_cons, List.not_mem_nil, or_false, e1, e2] at hd
      rcases hd with h | h | h
      · exact ⟨_, h, .inl rfl⟩
      · exact ⟨_, h, .inl rfl⟩
      · exact ⟨_, h, .inr rfl⟩
    subst hc1
    exact ⟨l ++ [c], es2, by simp [hl], by
      intro b hb
      rcases List.mem_append.mp hb with hb | hb
      · exact hc b hb
      · rw [List.mem_singleton.mp hb]; exact hc2, by simp, p3, rfl⟩
  · rintro acc M' ⟨l, es', hl, hc, rfl, p2, rfl⟩
    rw [rng_len] at hl p2
    intro q hq
    have hpq : p ≠ q := fun e => by subst e; rw [updM_at] at hq; cases hq
    have hq0 : M0 q = none := by rw [updM_ne (fun e => hpq e.symm)] at hq; exact hq
    refine len_obj updM_at ?_
    rw [updM_comm hpq]
    refine use_draw p2 (by omega) (by rw [List.length_map]; omega) (small_lt (by rw [List.length_map]; omega)) fun j es2 j0 j1 p3 => ?_
    rw [List.length_map] at j1
    refine ⟨_, by rw [updM_ne (fun e => hpq e.symm), updM_at], j, rfl, j.toNat, by rw [List.length_map]; unfold ixN; rw [if_pos j0, if_pos j1], .inl ⟨_, updM_at, ?_⟩⟩
    have e1 : (l.map fun c => D.str ⟨#[c]⟩).set j.toNat (D.str "x") = ((l.set j.toNat 120).map fun c => (⟨#[c]⟩ : Str)).map D.str := by
      rw [x_eq, List.map_map, List.map_set]; rfl
    have e2 : ∀ m, delM (updM (updM (updM M0 q (.lst (l.map fun c => D.str ⟨#[c]⟩))) p (.dct es2)) q m) q = updM M0 p (.dct es2) := fun m => by
      rw [← updM_comm hpq, updM_updM, del_upd (by rw [updM_ne (fun e => hpq e.symm)]; exact hq0)]
    rw [e2, e1]
    refine ⟨_, _, _, rfl, rfl, .inl rfl, ?_, ?_⟩
    · rw [sum_codes]; simp only [List.length_map, List.length_set]; show _ + _ * 0 ≤ _; omega
    rw [join_codes]
    refine hk _ es2 ⟨by rw [codes_len, List.length_set]; omega, by rw [codes_len, List.length_set]; omega, fun c h => ?_, ?_⟩ (p3.up (by omega))
    · rw [codes_list] at h
      rcases List.mem_or_eq_of_mem_set h with h | h
      · exact hc c h
      · exact .inl h
    · rw [codes_list]
      exact List.mem_set (by omega) _

end
end K08

set_option Elab.async false
set_option linter.all false
set_option maxRecDepth 100000
set_option maxHeartbeats 2000000
namespace K08
open PySem PySem.Spec PyProof.Rows L2 TV
section
variable {P : Program} {w : World} {K : PySem.W.Frag} {mg : Str → Option Value} {base : Heap}
def sp__law_given : DSp := fun ds M _ k => ds.length = 1 ∧ ∃ g : Gt, ds = [g.d] ∧ k (.tup (g.gv.map D.str)) M
theorem ok__law_given (T : Tx w K mg) : FnG P w K mg base CX0 1 T.f__law_given T.e__law_given ["_law_gate_here"] (rSp K sp__law_given) := by
  refine fnT T.d__law_given.fn sc__law_given (fun ds M x k h => h.1) (by decide) (fun cdv A outer s H E rm => ?_) (fun ds M x k h => h)
  refine ⟨_, (yss_cons (ys_if (xt_cmp op_in_seq l_inD (xe_ix (xv 0) xint (fun _ _ => rfl)) (xe_tup (xa_cons xstr (xa_cons xstr xa_nil))) (by rfl)) (yss_one (ys_ret (xe_if (xt_cmp (op_eqE rm.u64) l_eqE (xe_ix (xv 0) xint (fun _ _ => rfl)) xstr (nomark _)) (xe_sliceT (xv 0) (xo_some xint) (xo_some xint)) (xe_sliceT (xv 0) (xo_some xint) (xo_some xint))))) yss_nil)
      (yss_one (ys_ret (xe_if (xt_cmp (op_eqE rm.u64) l_eqE (xe_ix (xv 0) xint (fun _ _ => rfl)) xstr (nomark _)) (xe_sliceT (xv 0) (xo_some xint) (xo_some xint)) (xe_sliceT (xv 0) (xo_some xint) (xo_some xint)))))), ?_⟩
  intro ds M k h
  obtain ⟨-, g, rfl, hk⟩ := h
  rw [show start0 ["_law_gate_here"] [g.d] = [some g.d] from rfl]
  simp only [TV.wSeq, TV.wIf, TV.wOr, TV.wNot, TV.wAnd, TV.wAndV, TV.wOrV, TV.wNotV, TV.wIfE, TV.wTru, TV.wCB, TV.wCons, TV.wVar, TV.wC, TV.wNil, TV.wTest, TV.wChain, TV.wRet, TV.wRetN, TV.wNext, TV.wSet, TV.wDrop, TV.wFrz, TV.wMut, TV.wDisp, TV.wTup, TV.wOp, TV.wCall, TV.wDget, TV.wDput, TV.wFor, TV.wLc, TV.wiL, TV.wiT, TV.wiS, TV.wiR1, TV.wiR2, TV.wiEnumS, TV.wiEnum, TV.wgName, TV.wgTup, TV.wgCons, TV.wgNil, TV.wPar, TV.wPar3, TV.wAsg, TV.wUn, TV.wBM, TV.wApp, TV.wSetI, TV.wListC, TV.wSlL, TV.wSlS, TV.wSlT, TV.wNo, TV.wPart, TV.wYes, TV.wRev, TV.wMelt, TV.wNever, TV.wipe0, TV.wDictM, TV.wDictF, TV.wDict0F, TV.wPairs, List.getElem?_cons_zero, List.getElem?_cons_succ, List.set_cons_zero, List.set_cons_succ, Option.some.injEq, exists_eq_left', exists_eq_left, List.cons.injEq, and_true, true_and, TV.D.str.injEq, TV.D.int.injEq, TV.D.bl.injEq, TV.D.lst.injEq, TV.D.tup.injEq, TV.D.obj.injEq, List.map_cons, List.map_nil, TV.cmpD, TV.subD, TV.intD, TV.inSD, TV.ninSD, TV.isND, TV.notND, TV.isBD, TV.divmodC, TV.absC, isiC', TV.len_str, TV.len_lst, TV.len_tup, TV.tru_bl, TV.tru_int, TV.tru_str, TV.tru_lst, TV.tru_tup, TV.add_int, TV.add_str, TV.add_lst, TV.add_tup, TV.mul_int, TV.mul_str, TV.ix_str, TV.ix_lst, TV.ix_tup, TV.count_str, TV.eq_str, TV.ne_str, TV.eq_int, TV.ne_int, TV.eq_lst, TV.ne_lst, TV.sgx, TV.vw_non, TV.vw_bl, TV.vw_int, TV.vw_str, TV.vw_tup, TV.vw_lst, TV.vw_fro, TV.vw_dct, TV.key_str, TV.key_int, false_or, or_false, List.length_nil, TV.ty_non, TV.ty_bl, TV.ty_int, TV.ty_str, TV.ty_tup, TV.ty_lst, TV.ty_dct, TV.tn_str, TV.tn_int, TV.tn_bool, TV.tn_list, TV.tn_tuple, TV.tn_dict, TV.isT, String.reduceBEq, Bool.and_false, Bool.or_false, Bool.false_and, Bool.and_true, Bool.true_or, Bool.or_true, and_assoc, TV.D.ty.injEq, reduceCtorEq, exists_const, exists_and_left, exists_and_right, if_true, if_false, Bool.not_true, Bool.not_false, Bool.false_eq_true, reduceIte, TV.wExt, TV.wPop, TV.wPopAt, TV.wChg, TV.wAny, TV.wAug, TV.wWhile, TV.kgetD, TV.kinD, TV.wLenSet, TV.wLenO, TV.wEqO, TV.wMakeF, TV.wMeth, TV.wFld, TV.wSetF, TV.sumC, TV.minC, TV.maxC, TV.lcmC, TV.isiO, TV.wLc2, TV.wSlT, TV.wIsiT, List.append_nil, TV.wEither, TV.wGet2, TV.wDict1, TV.wDictZip, TV.sumIC, TV.wiZip, TV.wCallL, TV.mulTD]
  refine ixw ⟨by decide, in_strs (ws := ["deal", "cross"]) ⟨_, rfl, ?_⟩⟩
  rw [in_dc]
  cases e : dc g with
  | true =>
    rw [if_pos rfl]
    refine ixw ?_
    simp only [TV.wSeq, TV.wIf, TV.wOr, TV.wNot, TV.wAnd, TV.wAndV, TV.wOrV, TV.wNotV, TV.wIfE, TV.wTru, TV.wCB, TV.wCons, TV.wVar, TV.wC, TV.wNil, TV.wTest, TV.wChain, TV.wRet, TV.wRetN, TV.wNext, TV.wSet, TV.wDrop, TV.wFrz, TV.wMut, TV.wDisp, TV.wTup, TV.wOp, TV.wCall, TV.wDget, TV.wDput, TV.wFor, TV.wLc, TV.wiL, TV.wiT, TV.wiS, TV.wiR1, TV.wiR2, TV.wiEnumS, TV.wiEnum, TV.wgName, TV.wgTup, TV.wgCons, TV.wgNil, TV.wPar, TV.wPar3, TV.wAsg, TV.wUn, TV.wBM, TV.wApp, TV.wSetI, TV.wListC, TV.wSlL, TV.wSlS, TV.wSlT, TV.wNo, TV.wPart, TV.wYes, TV.wRev, TV.wMelt, TV.wNever, TV.wipe0, TV.wDictM, TV.wDictF, TV.wDict0F, TV.wPairs, List.getElem?_cons_zero, List.getElem?_cons_succ, List.set_cons_zero, List.set_cons_succ, Option.some.injEq, exists_eq_left', exists_eq_left, List.cons.injEq, and_true, true_and, TV.D.str.injEq, TV.D.int.injEq, TV.D.bl.injEq, TV.D.lst.injEq, TV.D.tup.injEq, TV.D.obj.injEq, List.map_cons, List.map_nil, TV.cmpD, TV.subD, TV.intD, TV.inSD, TV.ninSD, TV.isND, TV.notND, TV.isBD, TV.divmodC, TV.absC, isiC', TV.len_str, TV.len_lst, TV.len_tup, TV.tru_bl, TV.tru_int, TV.tru_str, TV.tru_lst, TV.tru_tup, TV.add_int, TV.add_str, TV.add_lst, TV.add_tup, TV.mul_int, TV.mul_str, TV.ix_str, TV.ix_lst, TV.ix_tup, TV.count_str, TV.eq_str, TV.ne_str, TV.eq_int, TV.ne_int, TV.eq_lst, TV.ne_lst, TV.sgx, TV.vw_non, TV.vw_bl, TV.vw_int, TV.vw_str, TV.vw_tup, TV.vw_lst, TV.vw_fro, TV.vw_dct, TV.key_str, TV.key_int, false_or, or_false, List.length_nil, TV.ty_non, TV.ty_bl, TV.ty_int, TV.ty_str, TV.ty_tup, TV.ty_lst, TV.ty_dct, TV.tn_str, TV.tn_int, TV.tn_bool, TV.tn_list, TV.tn_tuple, TV.tn_dict, TV.isT, String.reduceBEq, Bool.and_false, Bool.or_false, Bool.false_and, Bool.and_true, Bool.true_or, Bool.or_true, and_assoc, TV.D.ty.injEq, reduceCtorEq, exists_const, exists_and_left, exists_and_right, if_true, if_false, Bool.not_true, Bool.not_false, Bool.false_eq_true, reduceIte, TV.wExt, TV.wPop, TV.wPopAt, TV.wChg, TV.wAny, TV.wAug, TV.wWhile, TV.kgetD, TV.kinD, TV.wLenSet, TV.wLenO, TV.wEqO, TV.wMakeF, TV.wMeth, TV.wFld, TV.wSetF, TV.sumC, TV.minC, TV.maxC, TV.lcmC, TV.isiO, TV.wLc2, TV.wSlT, TV.wIsiT, List.append_nil, TV.wEither, TV.wGet2, TV.wDict1, TV.wDictZip, TV.sumIC, TV.wiZip, TV.wCallL, TV.mulTD]
    rw [eq_deal]
    cases g <;> first | exact ⟨_, rfl, hk⟩ | cases e
  | false =>
    rw [if_neg (by decide)]
    refine ixw ?_
    simp only [TV.wSeq, TV.wIf, TV.wOr, TV.wNot, TV.wAnd, TV.wAndV, TV.wOrV, TV.wNotV, TV.wIfE, TV.wTru, TV.wCB, TV.wCons, TV.wVar, TV.wC, TV.wNil, TV.wTest, TV.wChain, TV.wRet, TV.wRetN, TV.wNext, TV.wSet, TV.wDrop, TV.wFrz, TV.wMut, TV.wDisp, TV.wTup, TV.wOp, TV.wCall, TV.wDget, TV.wDput, TV.wFor, TV.wLc, TV.wiL, TV.wiT, TV.wiS, TV.wiR1, TV.wiR2, TV.wiEnumS, TV.wiEnum, TV.wgName, TV.wgTup, TV.wgCons, TV.wgNil, TV.wPar, TV.wPar3, TV.wAsg, TV.wUn, TV.wBM, TV.wApp, TV.wSetI, TV.wListC, TV.wSlL, TV.wSlS, TV.wSlT, TV.wNo, TV.wPart, TV.wYes, TV.wRev, TV.wMelt, TV.wNever, TV.wipe0, TV.wDictM, TV.wDictF, TV.wDict0F, TV.wPairs, List.getElem?_cons_zero, List.getElem?_cons_succ, List.set_cons_zero, List.set_cons_succ, Option.some.injEq, exists_eq_left', exists_eq_left, List.cons.injEq, and_true, true_and, TV.D.str.injEq, TV.D.int.injEq, TV.D.bl.injEq, TV.D.lst.injEq, TV.D.tup.injEq, TV.D.obj.injEq, List.map_cons, List.map_nil, TV.cmpD, TV.subD, TV.intD, TV.inSD, TV.ninSD, TV.isND, TV.notND, TV.isBD, TV.divmodC, TV.absC, isiC', TV.len_str, TV.len_lst, TV.len_tup, TV.tru_bl, TV.tru_int, TV.tru_str, TV.tru_lst, TV.tru_tup, TV.add_int, TV.add_str, TV.add_lst, TV.add_tup, TV.mul_int, TV.mul_str, TV.ix_str, TV.ix_lst, TV.ix_tup, TV.count_str, TV.eq_str, TV.ne_str, TV.eq_int, TV.ne_int, TV.eq_lst, TV.ne_lst, TV.sgx, TV.vw_non, TV.vw_bl, TV.vw_int, TV.vw_str, TV.vw_tup, TV.vw_lst, TV.vw_fro, TV.vw_dct, TV.key_str, TV.key_int, false_or, or_false, List.length_nil, TV.ty_non, TV.ty_bl, TV.ty_int, TV.ty_str, TV.ty_tup, TV.ty_lst, TV.ty_dct, TV.tn_str, TV.tn_int, TV.tn_bool, TV.tn_list, TV.tn_tuple, TV.tn_dict, TV.isT, String.reduceBEq, Bool.and_false, Bool.or_false, Bool.false_and, Bool.and_true, Bool.true_or, Bool.or_true, and_assoc, TV.D.ty.injEq, reduceCtorEq, exists_const, exists_and_left, exists_and_right, if_true, if_false, Bool.not_true, Bool.not_false, Bool.false_eq_true, reduceIte, TV.wExt, TV.wPop, TV.wPopAt, TV.wChg, TV.wAny, TV.wAug, TV.wWhile, TV.kgetD, TV.kinD, TV.wLenSet, TV.wLenO, TV.wEqO, TV.wMakeF, TV.wMeth, TV.wFld, TV.wSetF, TV.sumC, TV.minC, TV.maxC, TV.lcmC, TV.isiO, TV.wLc2, TV.wSlT, TV.wIsiT, List.append_nil, TV.wEither, TV.wGet2, TV.wDict1, TV.wDictZip, TV.sumIC, TV.wiZip, TV.wCallL, TV.mulTD]
    rw [eq_join]
    cases g <;> first | exact ⟨_, rfl, hk⟩ | cases e
def sp__law_room : DSp := fun ds M _ k => ds.length = 1 ∧ ∃ g : Gt, ds = [g.d] ∧ k (.int g.sz) M
theorem ok__law_room (T : Tx w K mg) : FnG P w K mg base CX0 1 T.f__law_room T.e__law_room ["_law_gate_here"] (rSp K sp__law_room) := by
  refine fnT T.d__law_room.fn sc__law_room (fun ds M x k h => h.1) (by decide) (fun cdv A outer s H E rm => ?_) (fun ds M x k h => h)
  refine ⟨_, (yss_cons (ys_if (xt_cmp op_in_seq l_inD (xe_ix (xv 0) xint (fun _ _ => rfl)) (xe_tup (xa_cons xstr (xa_cons xstr xa_nil))) (by rfl)) (yss_one (ys_ret xint)) yss_nil)
      (yss_one (ys_ret (xe_if (xt_cmp (op_eqE rm.u64) l_eqE (xe_ix (xv 0) xint (fun _ _ => rfl)) xstr (nomark _)) (xe_ix (xv 0) xint (fun _ _ => rfl)) (xe_ix (xv 0) xint (fun _ _ => rfl)))))), ?_⟩
  intro ds M k h
  obtain ⟨-, g, rfl, hk⟩ := h
  rw [show start0 ["_law_gate_here"] [g.d] = [some g.d] from rfl]
  simp only [TV.wSeq, TV.wIf, TV.wOr, TV.wNot, TV.wAnd, TV.wAndV, TV.wOrV, TV.wNotV, TV.wIfE, TV.wTru, TV.wCB, TV.wCons, TV.wVar, TV.wC, TV.wNil, TV.wTest, TV.wChain, TV.wRet, TV.wRetN, TV.wNext, TV.wSet, TV.wDrop, TV.wFrz, TV.wMut, TV.wDisp, TV.wTup, TV.wOp, TV.wCall, TV.wDget, TV.wDput, TV.wFor, TV.wLc, TV.wiL, TV.wiT, TV.wiS, TV.wiR1, TV.wiR2, TV.wiEnumS, TV.wiEnum, TV.wgName, TV.wgTup, TV.wgCons, TV.wgNil, TV.wPar, TV.wPar3, TV.wAsg, TV.wUn, TV.wBM, TV.wApp, TV.wSetI, TV.wListC, TV.wSlL, TV.wSlS, TV.wSlT, TV.wNo, TV.wPart, TV.wYes, TV.wRev, TV.wMelt, TV.wNever, TV.wipe0, TV.wDictM, TV.wDictF, TV.wDict0F, TV.wPairs, List.getElem?_cons_zero, List.getElem?_cons_succ, List.set_cons_zero, List.set_cons_succ, Option.some.injEq, exists_eq_left', exists_eq_left, List.cons.injEq, and_true, true_and, TV.D.str.injEq, TV.D.int.injEq, TV.D.bl.injEq, TV.D.lst.injEq, TV.D.tup.injEq, TV.D.obj.injEq, List.map_cons, List.map_nil, TV.cmpD, TV.subD, TV.intD, TV.inSD, TV.ninSD, TV.isND, TV.notND, TV.isBD, TV.divmodC, TV.absC, isiC', TV.len_str, TV.len_lst, TV.len_tup, TV.tru_bl, TV.tru_int, TV.tru_str, TV.tru_lst, TV.tru_tup, TV.add_int, TV.add_str, TV.add_lst, TV.add_tup, TV.mul_int, TV.mul_str, TV.ix_str, TV.ix_lst, TV.ix_tup, TV.count_str, TV.eq_str, TV.ne_str, TV.eq_int, TV.ne_int, TV.eq_lst, TV.ne_lst, TV.sgx, TV.vw_non, TV.vw_bl, TV.vw_int, TV.vw_str, TV.vw_tup, TV.vw_lst, TV.vw_fro, TV.vw_dct, TV.key_str, TV.key_int, false_or, or_false, List.length_nil, TV.ty_non, TV.ty_bl, TV.ty_int, TV.ty_str, TV.ty_tup, TV.ty_lst, TV.ty_dct, TV.tn_str, TV.tn_int, TV.tn_bool, TV.tn_list, TV.tn_tuple, TV.tn_dict, TV.isT, String.reduceBEq, Bool.and_false, Bool.or_false, Bool.false_and, Bool.and_true, Bool.true_or, Bool.or_true, and_assoc, TV.D.ty.injEq, reduceCtorEq, exists_const, exists_and_left, exists_and_right, if_true, if_false, Bool.not_true, Bool.not_false, Bool.false_eq_true, reduceIte, TV.wExt, TV.wPop, TV.wPopAt, TV.wChg, TV.wAny, TV.wAug, TV.wWhile, TV.kgetD, TV.kinD, TV.wLenSet, TV.wLenO, TV.wEqO, TV.wMakeF, TV.wMeth, TV.wFld, TV.wSetF, TV.sumC, TV.minC, TV.maxC, TV.lcmC, TV.isiO, TV.wLc2, TV.wSlT, TV.wIsiT, List.append_nil, TV.wEither, TV.wGet2, TV.wDict1, TV.wDictZip, TV.sumIC, TV.wiZip, TV.wCallL, TV.mulTD]
  refine ixw ⟨by decide, in_strs (ws := ["deal", "cross"]) ⟨_, rfl, ?_⟩⟩
  rw [in_dc]
  cases e : dc g with
  | true =>
    rw [if_pos rfl]
    cases g <;> first | exact hk | cases e
  | false =>
    rw [if_neg (by decide)]
    refine ixw ?_
    simp only [TV.wSeq, TV.wIf, TV.wOr, TV.wNot, TV.wAnd, TV.wAndV, TV.wOrV, TV.wNotV, TV.wIfE, TV.wTru, TV.wCB, TV.wCons, TV.wVar, TV.wC, TV.wNil, TV.wTest, TV.wChain, TV.wRet, TV.wRetN, TV.wNext, TV.wSet, TV.wDrop, TV.wFrz, TV.wMut, TV.wDisp, TV.wTup, TV.wOp, TV.wCall, TV.wDget, TV.wDput, TV.wFor, TV.wLc, TV.wiL, TV.wiT, TV.wiS, TV.wiR1, TV.wiR2, TV.wiEnumS, TV.wiEnum, TV.wgName, TV.wgTup, TV.wgCons, TV.wgNil, TV.wPar, TV.wPar3, TV.wAsg, TV.wUn, TV.wBM, TV.wApp, TV.wSetI, TV.wListC, TV.wSlL, TV.wSlS, TV.wSlT, TV.wNo, TV.wPart, TV.wYes, TV.wRev, TV.wMelt, TV.wNever, TV.wipe0, TV.wDictM, TV.wDictF, TV.wDict0F, TV.wPairs, List.getElem?_cons_zero, List.getElem?_cons_succ, List.set_cons_zero, List.set_cons_succ, Option.some.injEq, exists_eq_left', exists_eq_left, List.cons.injEq, and_true, true_and, TV.D.str.injEq, TV.D.int.injEq, TV.D.bl.injEq, TV.D.lst.injEq, TV.D.tup.injEq, TV.D.obj.injEq, List.map_cons, List.map_nil, TV.cmpD, TV.subD, TV.intD, TV.inSD, TV.ninSD, TV.isND, TV.notND, TV.isBD, TV.divmodC, TV.absC, isiC', TV.len_str, TV.len_lst, TV.len_tup, TV.tru_bl, TV.tru_int, TV.tru_str, TV.tru_lst, TV.tru_tup, TV.add_int, TV.add_str, TV.add_lst, TV.add_tup, TV.mul_int, TV.mul_str, TV.ix_str, TV.ix_lst, TV.ix_tup, TV.count_str, TV.eq_str, TV.ne_str, TV.eq_int, TV.ne_int, TV.eq_lst, TV.ne_lst, TV.sgx, TV.vw_non, TV.vw_bl, TV.vw_int, TV.vw_str, TV.vw_tup, TV.vw_lst, TV.vw_fro, TV.vw_dct, TV.key_str, TV.key_int, false_or, or_false, List.length_nil, TV.ty_non, TV.ty_bl, TV.ty_int, TV.ty_str, TV.ty_tup, TV.ty_lst, TV.ty_dct, TV.tn_str, TV.tn_int, TV.tn_bool, TV.tn_list, TV.tn_tuple, TV.tn_dict, TV.isT, String.reduceBEq, Bool.and_false, Bool.or_false, Bool.false_and, Bool.and_true, Bool.true_or, Bool.or_true, and_assoc, TV.D.ty.injEq, reduceCtorEq, exists_const, exists_and_left, exists_and_right, if_true, if_false, Bool.not_true, Bool.not_false, Bool.false_eq_true, reduceIte, TV.wExt, TV.wPop, TV.wPopAt, TV.wChg, TV.wAny, TV.wAug, TV.wWhile, TV.kgetD, TV.kinD, TV.wLenSet, TV.wLenO, TV.wEqO, TV.wMakeF, TV.wMeth, TV.wFld, TV.wSetF, TV.sumC, TV.minC, TV.maxC, TV.lcmC, TV.isiO, TV.wLc2, TV.wSlT, TV.wIsiT, List.append_nil, TV.wEither, TV.wGet2, TV.wDict1, TV.wDictZip, TV.sumIC, TV.wiZip, TV.wCallL, TV.mulTD]
    rw [eq_join]
    cases g <;> first | (simp only [isJoin, Bool.false_eq_true, if_false, if_true]; exact ix_tup.mpr ⟨_, rfl, hk⟩) | cases e
/-! the pen and two lists of texts -/
def st3 (M0 : MS) (p f q : Addr) (es : List (Key × D)) (fs ns : List Str) : MS := updM (updM (updM M0 p (.dct es)) f (.lst (fs.map D.str))) q (.lst (ns.map D.str))
structure Ap (p f q : Addr) : Prop where
  pf : p ≠ f
  pq : p ≠ q
  fq : f ≠ q
section
variable {M0 : MS} {p f q : Addr} {es es2 : List (Key × D)} {fs ns ms : List Str} (h : Ap p f q)
include h
theorem st3_p : updM (st3 M0 p f q es fs ns) p (.dct es2) = st3 M0 p f q es2 fs ns := by
  unfold st3
  rw [updM_comm (fun e => h.pq e.symm), updM_comm (fun e => h.pf e.symm), updM_updM]
theorem st3_f : updM (st3 M0 p f q es fs ns) f (.lst (ms.map D.str)) = st3 M0 p f q es ms ns := by
  unfold st3
  rw [updM_comm (fun e => h.fq e.symm), updM_updM]
theorem st3_q : updM (st3 M0 p f q es fs ns) q (.lst (ms.map D.str)) = st3 M0 p f q es fs ms := by
  unfold st3
  rw [updM_updM]
theorem at3_p : st3 M0 p f q es fs ns p = some (.dct es) := by
  unfold st3
  rw [updM_ne h.pq, updM_ne h.pf, updM_at]
theorem at3_f : st3 M0 p f q es fs ns f = some (.lst (fs.map D.str)) := by
  unfold st3
  rw [updM_ne h.fq, updM_at]
theorem at3_q : st3 M0 p f q es fs ns q = some (.lst (ns.map D.str)) := by
  unfold st3
  rw [updM_at]
theorem draw3 {n : Nat} {m : Int} {x : XD} {k : KD} (hp : penD n es) (hn : n < 1000000) (h1 : 1 ≤ m) (h2 : m < 2 ^ 1000)
    (hk : ∀ r es', 0 ≤ r → r < m → penD (n + 1) es' → k (.int r) (st3 M0 p f q es' fs ns)) : sp__law_draw [.obj p, .int m] (st3 M0 p f q es fs ns) x k :=
  ⟨rfl, p, m, n, es, rfl, at3_p h, hp, hn, h1, h2, fun r es' a b c => by rw [st3_p h]; exact hk r es' a b c⟩
theorem pick3 {n : Nat} {c : D} {xs : List D} {x : XD} {k : KD} (hp : penD n es) (hn : n < 1000000) (hi : itemsD c = some xs) (h1 : 1 ≤ xs.length) (h2 : xs.length ≤ 100000)
    (hk : ∀ d es', d ∈ xs → penD (n + 1) es' → k d (st3 M0 p f q es' fs ns)) : sp__law_pick [.obj p, c] (st3 M0 p f q es fs ns) x k :=
  ⟨rfl, p, c, xs, n, es, rfl, hi, h1, h2, at3_p h, hp, hn, fun d es' a b => by rw [st3_p h]; exact hk d es' a b⟩
end
theorem cut3 {A B C R : DS} {E : DEnds} {ρ : DSt} {M : MS} {x : XD} (I : DSt → MS → Prop) (h1 : ∀ R' : DS, (∀ ρ' M', I ρ' M' → R' E ρ' M' x) → wSeq A (wSeq B (wSeq C R')) E ρ M x) (h2 : ∀ ρ' M', I ρ' M' → R E ρ' M' x) : wSeq A (wSeq B (wSeq C R)) E ρ M x := h1 R h2
theorem erase_filter {fs : List Str} (nd : fs.Nodup) : ∀ {j : Nat} {a : Str}, fs[j]? = some a → fs.eraseIdx j = fs.filter fun x => !decide (x ∈ [a]) := by
  induction fs with
  | nil => intro j a h; cases h
  | cons b fs ih =>
    intro j a h
    have nb := List.nodup_cons.mp nd
    cases j with
    | zero =>
      cases h
      rw [List.eraseIdx_cons_zero, List.filter_cons_of_neg (by simp)]
      symm
      refine List.filter_eq_self.mpr fun x hx => ?_
      have : x ≠ b := fun e => nb.1 (e ▸ hx)
      simp [this]
    | succ j =>
      have h : fs[j]? = some a := h
      have : b ≠ a := fun e => nb.1 (e ▸ List.mem_of_getElem? h)
      rw [List.eraseIdx_cons_succ, ih nb.2 h, List.filter_cons_of_pos (by simp [this])]
theorem map_erase {fs : List Str} : ∀ j, (fs.map D.str).eraseIdx j = (fs.eraseIdx j).map D.str := by
  induction fs with
  | nil => intro j; rfl
  | cons b fs ih =>
    intro j
    cases j with
    | zero => rfl
    | succ j => rw [List.map_cons, List.eraseIdx_cons_succ, List.eraseIdx_cons_succ, List.map_cons, ih]
theorem pop_at {fs : List Str} (nd : fs.Nodup) {i : Int} (i0 : 0 ≤ i) (i1 : i < fs.length) : ∃ a j, seqIndex? i (fs.map D.str).length = some j ∧ (fs.map D.str)[j]? = some (.str a) ∧ (fs.map D.str).eraseIdx j = (fs.filter fun x => !decide (x ∈ [a])).map D.str ∧ a ∈ fs ∧ (fs.filter fun x => !decide (x ∈ [a])).length + 1 = fs.length := by
  have lt : i.toNat < fs.length := by omega
  refine ⟨fs[i.toNat], i.toNat, ?_, ?_, ?_, List.getElem_mem lt, ?_⟩
  · unfold seqIndex?
    rw [List.length_map]
    simp [i0, i1]
    try omega
  · rw [List.getElem?_map, List.getElem?_eq_getElem lt]; rfl
  · rw [map_erase, erase_filter nd (List.getElem?_eq_getElem lt)]
  · rw [← erase_filter nd (List.getElem?_eq_getElem lt), List.length_eraseIdx, if_pos lt]
    omega
theorem snoc_of {α : Type} {l : List α} (h : 1 ≤ l.length) : ∃ r x, l = r ++ [x] := by
  have ne : l ≠ [] := fun e => by subst e; exact absurd h (by simp)
  exact ⟨l.dropLast, l.getLast ne, (List.dropLast_concat_getLast ne).symm⟩
theorem last_map {ms : List Str} {x : Str} : ((ms ++ [x]).map D.str)[((ms ++ [x]).map D.str).length - 1]? = some (.str x) := by
  rw [List.map_append, List.length_append]
  simp
theorem drop_map {ms : List Str} {x : Str} : ((ms ++ [x]).map D.str).dropLast = ms.map D.str := by
  rw [List.map_append]
  simp
theorem filt2 {fs : List Str} {a b : Str} : ((fs.filter fun x => !decide (x ∈ [a])).filter fun x => !decide (x ∈ [b])) = fs.filter fun x => !decide (x ∈ [a, b]) := by
  rw [List.filter_filter]
  refine List.filter_congr fun x _ => ?_
  by_cases e1 : x = a <;> by_cases e2 : x = b <;> simp [e1, e2]
theorem many3 {M0 : MS} {p f q : Addr} {es : List (Key × D)} {fs ns : List Str} {n : Nat} {room : Int} {x : XD} {G : D → MS → Prop} (ap : Ap p f q) (hp : penD n es) (hn : n < 990000) (r0 : 0 ≤ room) (r1 : room ≤ 12)
    (hk : ∀ c es2, 0 ≤ c → c ≤ room → penD (n + 2) es2 → G (.int c) (st3 M0 p f q es2 fs ns)) :
    [D.int 1, D.int 2, D.int 4, D.int 12].length ≤ 100000 ∧ sp__law_pick [D.obj p, D.lst [D.int 1, D.int 2, D.int 4, D.int 12]] (st3 M0 p f q es fs ns) x fun d M1 =>
      ∃ v, d = D.int v ∧ sp__law_draw [D.obj p, D.int (1 + if v < room then v else room)] M1 x fun d M1 => G d M1 := by
  refine ⟨by decide, pick3 ap hp (by omega) rfl (by decide) (by decide) fun d es1 hd p1 => ?_⟩
  obtain ⟨v, rfl, v0, v1⟩ : ∃ v, d = D.int v ∧ 1 ≤ v ∧ v ≤ 12 := by
    simp only [List.mem_cons, List.not_mem_nil, or_false] at hd
    rcases hd with h | h | h | h <;> exact ⟨_, h, by decide, by decide⟩
  have lim : 0 ≤ (if v < room then v else room) ∧ (if v < room then v else room) ≤ room := by split <;> omega
  exact ⟨v, rfl, draw3 ap p1 (by omega) (by omega) (small_lt (by omega)) fun c es2 c0 c1 p2 => hk c es2 c0 (by omega) p2⟩
theorem two {x a : Str} (h : okName x) (h2 : okName a) : ∀ z ∈ [a] ++ [x], okName z := by
  rintro z hz
  simp only [List.cons_append, List.nil_append, List.mem_cons, List.not_mem_nil, or_false] at hz
  rcases hz with rfl | rfl
  · exact h2
  · exact h
theorem two_nd {a x : Str} (h : a ≠ x) : ([a] ++ [x]).Nodup := by simp [h]
theorem three {a b c : Str} (h : okName a) (h2 : okName b) (h3 : okName c) : ∀ z ∈ [a, b, c], okName z := by
  rintro z hz
  simp only [List.mem_cons, List.not_mem_nil, or_false] at hz
  rcases hz with rfl | rfl | rfl <;> assumption
theorem three_nd {a b c : Str} (h : a ≠ b) (h2 : a ≠ c) (h3 : b ≠ c) : [a, b, c].Nodup := by simp [h, h2, h3]
theorem four {a b c d : Str} (h : okName a) (h2 : okName b) (h3 : okName c) (h4 : okName d) : ∀ z ∈ [a, b, c, d], okName z := by
  rintro z hz
  simp only [List.mem_cons, List.not_mem_nil, or_false] at hz
  rcases hz with rfl | rfl | rfl | rfl <;> assumption
theorem four_nd {a b c d : Str} (h : a ≠ b) (h2 : a ≠ c) (h3 : a ≠ d) (h4 : b ≠ c) (h5 : b ≠ d) (h6 : c ≠ d) : [a, b, c, d].Nodup := by simp [h, h2, h3, h4, h5, h6]
theorem w1 : (("hold" : Str) == ("cross" : Str)) = false := by decide +kernel
theorem w2 : (("hold" : Str) == ("deal" : Str)) = false := by decide +kernel
theorem w3 : (("hold" : Str) == ("join" : Str)) = false := by decide +kernel
theorem w4 : (("hold" : Str) == ("hold" : Str)) = true := by decide +kernel
theorem w5 : (("wait" : Str) == ("cross" : Str)) = false := by decide +kernel
theorem w6 : (("wait" : Str) == ("deal" : Str)) = false := by decide +kernel
theorem w7 : (("wait" : Str) == ("join" : Str)) = false := by decide +kernel
theorem w8 : (("wait" : Str) == ("hold" : Str)) = false := by decide +kernel
theorem w9 : (("wait" : Str) == ("lag" : Str)) = false := by decide +kernel
theorem w10 : (("lag" : Str) == ("cross" : Str)) = false := by decide +kernel
theorem w11 : (("lag" : Str) == ("deal" : Str)) = false := by decide +kernel
theorem w12 : (("lag" : Str) == ("join" : Str)) = false := by decide +kernel
theorem w13 : (("lag" : Str) == ("hold" : Str)) = false := by decide +kernel
theorem w14 : (("lag" : Str) == ("lag" : Str)) = true := by decide +kernel
theorem w15 : (("deal" : Str) == ("cross" : Str)) = false := by decide +kernel
theorem w16 : (("deal" : Str) == ("deal" : Str)) = true := by decide +kernel
theorem w17 : (("join" : Str) == ("cross" : Str)) = false := by decide +kernel
theorem w18 : (("join" : Str) == ("deal" : Str)) = false := by decide +kernel
theorem w19 : (("join" : Str) == ("join" : Str)) = true := by decide +kernel
theorem w20 : (("cross" : Str) == ("cross" : Str)) = true := by decide +kernel
def sixW : List Str := ["hold", "wait", "lag", "deal", "join", "cross"]
def sp__law_gate : DSp := fun ds M _ k => ds.length = 4 ∧ ∃ (p f q : Addr) (room : Int) (M0 : MS) (es : List (Key × D)) (fs ns : List Str) (n : Nat), ds = [.obj p, .obj f, .obj q, .int room] ∧ Ap p f q ∧ M = st3 M0 p f q es fs ns ∧ penD n es ∧ n < 900000 ∧ 0 ≤ room ∧ room ≤ 12 ∧
  1 ≤ fs.length ∧ fs.length ≤ 100 ∧ 2 ≤ ns.length ∧ ns.length ≤ 100 ∧ (fs ++ ns).Nodup ∧ (∀ s ∈ fs ++ ns, okName s) ∧
  ∀ (g : Gt) (ms : List Str) (es2 : List (Key × D)), g.ok → (∀ x ∈ g.tk, x ∈ fs) → ns = ms ++ g.gv.reverse → g.sz ≤ room → penD (n + 16) es2 → k g.d (st3 M0 p f q es2 (fs.filter fun x => !decide (x ∈ g.tk)) ms)
theorem ok__law_gate (T : Tx w K mg) : FnG P w K mg base CX0 3 T.f__law_gate T.e__law_gate ["_law_pen_here", "_law_free", "_law_names_here", "_law_room_here"] (rSp K sp__law_gate) := by
  refine fnT T.d__law_gate.fn sc__law_gate (fun ds M x k h => h.1) (by decide) (fun cdv A outer s H E rm => ?_) (fun ds M x k h => h)
  refine ⟨_, (yss_cons (ys_set (i := 4) sc__law_gate.nd rfl (by first | exact Or.inl rfl | exact Or.inr rfl) (xcall (ok__law_pick T) (rm.mono (by decide)) (by rfl) T.d__law_pick.gl T.d__law_pick.fn.kp T.d__law_pick.bi pass0 (xa_cons (xv 0) (xa_cons (xl_frz (xl_lst (xa_cons xstr (xa_cons xstr (xa_cons xstr (xa_cons xstr (xa_cons xstr (xa_cons xstr (xa_cons xstr (xa_cons xstr (xa_cons xstr (xa_cons xstr xa_nil)))))))))))) xa_nil))))
      (yss_cons (ys_if (PW.pt (xw_and (xt_cmp op_lt l_cmpD (xe_callB call_lenD' l_lenC (by rfl) T.m_len (by decide +kernel) (xa_cons (xv 1) xa_nil)) xint (nomark _)) (xw_and1 (xt_cmp op_in_seq l_inD (xv 4) (xe_tup (xa_cons xstr (xa_cons xstr xa_nil))) (by rfl))))) (yss_one (ys_set (i := 4) sc__law_gate.nd rfl (by first | exact Or.inl rfl | exact Or.inr rfl) xstr)) yss_nil)
      (yss_cons (ys_if (PW.pt (xw_and (xt_cmp (op_eqE rm.u64) l_eqE (xv 3) xint (nomark _)) (xw_and1 (xt_cmp (op_eqE rm.u64) l_eqE (xv 4) xstr (nomark _))))) (yss_one (ys_set (i := 4) sc__law_gate.nd rfl (by first | exact Or.inl rfl | exact Or.inr rfl) xstr)) yss_nil)
      (yss_cons (ys_set (i := 5) sc__law_gate.nd rfl (by first | exact Or.inl rfl | exact Or.inr rfl) (xe_popAt (xv 1) (xcall (ok__law_draw T) (rm.mono (by decide)) (by rfl) T.d__law_draw.gl T.d__law_draw.fn.kp T.d__law_draw.bi pass0 (xa_cons (xv 0) (xa_cons (xe_callB call_lenD' l_lenC (by rfl) T.m_len (by decide +kernel) (xa_cons (xv 1) xa_nil)) xa_nil)))))
      (yss_cons (ys_if (xt_cmp (op_eqE rm.u64) l_eqE (xv 4) xstr (nomark _)) (yss_one (ys_ret (xe_tup (xa_cons xstr (xa_cons (xv 5) (xa_cons (xe_popAt (xv 1) (xcall (ok__law_draw T) (rm.mono (by decide)) (by rfl) T.d__law_draw.gl T.d__law_draw.fn.kp T.d__law_draw.bi pass0 (xa_cons (xv 0) (xa_cons (xe_callB call_lenD' l_lenC (by rfl) T.m_len (by decide +kernel) (xa_cons (xv 1) xa_nil)) xa_nil)))) (xa_cons (xe_pop (xv 2)) (xa_cons (xe_pop (xv 2)) xa_nil)))))))) yss_nil)
      (yss_cons (ys_if (xt_cmp (op_eqE rm.u64) l_eqE (xv 4) xstr (nomark _)) (yss_cons (ys_set (i := 6) sc__law_gate.nd rfl (by first | exact Or.inl rfl | exact Or.inr rfl) (xe_bm PySem.F.plainAttrs_str PySem.F.slot_str_join PySem.F.type_str_join mt_join l_joinM (by decide) xstr (xa_cons (xl_frz (xl_lc (own := [("_law_k", 8)]) (g := gName 8) rfl sc__law_gate.nd (xi_range1 (by rfl) T.m_range (xa_cons (xe_op op_addD l_addD xint (xcall (ok__law_draw T) (rm.mono (by decide)) (by rfl) T.d__law_draw.gl T.d__law_draw.fn.kp T.d__law_draw.bi pass0 (xa_cons (xv 0) (xa_cons xint xa_nil)))) xa_nil)) (blkOk_by (N := ["_law_pen_here", "_law_free", "_law_names_here", "_law_room_here", "_law_word", "_law_lane", "_law_text", "_law_many", "_law_k"]) (sc := defScope s__law_gate) (by decide +kernel)) (tg_name (by decide)) (fun _ _ _ _ _ => pg_name (i := 8) sc__law_gate.nd rfl (by first | exact Or.inl rfl | exact Or.inr rfl)) (fun _ _ _ _ _ => xts_nil) (fun _ _ _ _ _ => (xcall (ok__law_pick T) (rm.mono (by decide)) (by rfl) T.d__law_pick.gl T.d__law_pick.fn.kp T.d__law_pick.bi pass0 (xa_cons (xv 0) (xa_cons (xl_frz (xl_lst (xa_cons xstr (xa_cons xstr xa_nil)))) xa_nil)))))) xa_nil)))
      (yss_one (ys_ret (xe_tup (xa_cons xstr (xa_cons (xv 5) (xa_cons (xe_pop (xv 2)) (xa_cons (xe_pop (xv 2)) (xa_cons (xv 6) xa_nil))))))))) yss_nil)
      (yss_cons (ys_set (i := 7) sc__law_gate.nd rfl (by first | exact Or.inl rfl | exact Or.inr rfl) (xcall (ok__law_draw T) (rm.mono (by decide)) (by rfl) T.d__law_draw.gl T.d__law_draw.fn.kp T.d__law_draw.bi pass0 (xa_cons (xv 0) (xa_cons (xe_op op_addD l_addD xint (xe_callB (call_min2 rfl) l_minC (by rfl) T.m_min (by decide +kernel) (xa_cons (xv 3) (xa_cons (xcall (ok__law_pick T) (rm.mono (by decide)) (by rfl) T.d__law_pick.gl T.d__law_pick.fn.kp T.d__law_pick.bi pass0 (xa_cons (xv 0) (xa_cons (xl_frz (xl_lst (xa_cons xint (xa_cons xint (xa_cons xint (xa_cons xint xa_nil)))))) xa_nil))) xa_nil)))) xa_nil))))
      (yss_cons (ys_if (xt_cmp (op_eqE rm.u64) l_eqE (xv 4) xstr (nomark _)) (yss_one (ys_ret (xe_tup (xa_cons xstr (xa_cons (xv 5) (xa_cons (xe_popAt (xv 1) (xcall (ok__law_draw T) (rm.mono (by decide)) (by rfl) T.d__law_draw.gl T.d__law_draw.fn.kp T.d__law_draw.bi pass0 (xa_cons (xv 0) (xa_cons (xe_callB call_lenD' l_lenC (by rfl) T.m_len (by decide +kernel) (xa_cons (xv 1) xa_nil)) xa_nil)))) (xa_cons (xe_pop (xv 2)) (xa_cons (xv 7) xa_nil)))))))) yss_nil)
      (yss_cons (ys_if (xt_cmp (op_eqE rm.u64) l_eqE (xv 4) xstr (nomark _)) (yss_one (ys_ret (xe_tup (xa_cons xstr (xa_cons (xv 5) (xa_cons (xe_pop (xv 2)) (xa_cons (xv 7) (xa_cons (xcall (ok__law_pick T) (rm.mono (by decide)) (by rfl) T.d__law_pick.gl T.d__law_pick.fn.kp T.d__law_pick.bi pass0 (xa_cons (xv 0) (xa_cons (xl_frz (xl_lst (xa_cons xint (xa_cons (xv 7) (xa_cons (xcall (ok__law_draw T) (rm.mono (by decide)) (by rfl) T.d__law_draw.gl T.d__law_draw.fn.kp T.d__law_draw.bi pass0 (xa_cons (xv 0) (xa_cons (xe_op op_addD l_addD (xv 7) xint) xa_nil))) xa_nil))))) xa_nil))) xa_nil)))))))) yss_nil)
      (yss_one (ys_ret (xe_tup (xa_cons (xv 4) (xa_cons (xv 5) (xa_cons (xe_pop (xv 2)) (xa_cons (xe_callB (call_max2 rfl) l_maxC (by rfl) T.m_max (by decide +kernel) (xa_cons (xv 7) (xa_cons (xe_callTy call_int1 l_intC (by rfl) T.m_int (by decide +kernel) (xa_cons (xe_cmp (op_eqE rm.u64) l_eqE (xv 4) xstr (nomark _)) xa_nil)) xa_nil))) xa_nil)))))))))))))))), ?_⟩
  intro ds M k h
  obtain ⟨-, p, f, q, room, M0, es, fs, ns, n, rfl, ap, rfl, hp, hn, r0, r1, f0, f1, n0, n1, nd, nm, hk⟩ := h
  rw [show start0 ["_law_pen_here", "_law_free", "_law_names_here", "_law_room_here", "_law_word", "_law_lane", "_law_text", "_law_many", "_law_k"] [D.obj p, D.obj f, D.obj q, D.int room] = [some (.obj p), some (.obj f), some (.obj q), some (.int room), none, none, none, none, none] from rfl]
  refine cut3 (fun ρ' M' => ∃ wd es', ρ' = [some (.obj p), some (.obj f), some (.obj q), some (.int room), some (.str wd), none, none, none, none] ∧ M' = st3 M0 p f q es' fs ns ∧ penD (n + 1) es' ∧ wd ∈ sixW ∧ (wd ∈ (["join", "cross"] : List Str) → 2 ≤ fs.length) ∧ (wd = "lag" → 1 ≤ room)) ?_ ?_
  · intro R hR
    simp only [TV.wSeq, TV.wIf, TV.wOr, TV.wNot, TV.wAnd, TV.wAndV, TV.wOrV, TV.wNotV, TV.wIfE, TV.wTru, TV.wCB, TV.wCons, TV.wVar, TV.wC, TV.wNil, TV.wTest, TV.wChain, TV.wRet, TV.wRetN, TV.wNext, TV.wSet, TV.wDrop, TV.wFrz, TV.wMut, TV.wDisp, TV.wTup, TV.wOp, TV.wCall, TV.wDget, TV.wDput, TV.wFor, TV.wLc, TV.wiL, TV.wiT, TV.wiS, TV.wiR1, TV.wiR2, TV.wiEnumS, TV.wiEnum, TV.wgName, TV.wgTup, TV.wgCons, TV.wgNil, TV.wPar, TV.wPar3, TV.wAsg, TV.wUn, TV.wBM, TV.wApp, TV.wSetI, TV.wListC, TV.wSlL, TV.wSlS, TV.wSlT, TV.wNo, TV.wPart, TV.wYes, TV.wRev, TV.wMelt, TV.wNever, TV.wipe0, TV.wDictM, TV.wDictF, TV.wDict0F, TV.wPairs, List.getElem?_cons_zero, List.getElem?_cons_succ, List.set_cons_zero, List.set_cons_succ, Option.some.injEq, exists_eq_left', exists_eq_left, List.cons.injEq, and_true, true_and, TV.D.str.injEq, TV.D.int.injEq, TV.D.bl.injEq, TV.D.lst.injEq, TV.D.tup.injEq, TV.D.obj.injEq, List.map_cons, List.map_nil, TV.cmpD, TV.subD, TV.intD, TV.inSD, TV.ninSD, TV.isND, TV.notND, TV.isBD, TV.divmodC, TV.absC, isiC', TV.len_str, TV.len_lst, TV.len_tup, TV.tru_bl, TV.tru_int, TV.tru_str, TV.tru_lst, TV.tru_tup, TV.add_int, TV.add_str, TV.add_lst, TV.add_tup, TV.mul_int, TV.mul_str, TV.ix_str, TV.ix_lst, TV.ix_tup, TV.count_str, TV.eq_str, TV.ne_str, TV.eq_int, TV.ne_int, TV.eq_lst, TV.ne_lst, TV.sgx, TV.vw_non, TV.vw_bl, TV.vw_int, TV.vw_str, TV.vw_tup, TV.vw_lst, TV.vw_fro, TV.vw_dct, TV.key_str, TV.key_int, false_or, or_false, List.length_nil, TV.ty_non, TV.ty_bl, TV.ty_int, TV.ty_str, TV.ty_tup, TV.ty_lst, TV.ty_dct, TV.tn_str, TV.tn_int, TV.tn_bool, TV.tn_list, TV.tn_tuple, TV.tn_dict, TV.isT, String.reduceBEq, Bool.and_false, Bool.or_false, Bool.false_and, Bool.and_true, Bool.true_or, Bool.or_true, and_assoc, TV.D.ty.injEq, reduceCtorEq, exists_const, exists_and_left, exists_and_right, if_true, if_false, Bool.not_true, Bool.not_false, Bool.false_eq_true, reduceIte, TV.wExt, TV.wPop, TV.wPopAt, TV.wChg, TV.wAny, TV.wAug, TV.wWhile, TV.kgetD, TV.kinD, TV.wLenSet, TV.wLenO, TV.wEqO, TV.wMakeF, TV.wMeth, TV.wFld, TV.wSetF, TV.sumC, TV.minC, TV.maxC, TV.lcmC, TV.isiO, TV.wLc2, TV.wSlT, TV.wIsiT, List.append_nil, TV.wEither, TV.wGet2, TV.wDict1, TV.wDictZip, TV.sumIC, TV.wiZip, TV.wCallL, TV.mulTD]
    refine ⟨by decide, pick3 ap hp (by omega) rfl (by decide) (by decide) fun d es1 hd p1 => ?_⟩
    obtain ⟨wd, rfl, hw⟩ : ∃ wd, d = D.str wd ∧ wd ∈ sixW := by
      simp only [List.mem_cons, List.not_mem_nil, or_false] at hd
      rcases hd with h | h | h | h | h | h | h | h | h | h <;> exact ⟨_, h, by simp [sixW]⟩
    simp only [TV.wSeq, TV.wIf, TV.wOr, TV.wNot, TV.wAnd, TV.wAndV, TV.wOrV, TV.wNotV, TV.wIfE, TV.wTru, TV.wCB, TV.wCons, TV.wVar, TV.wC, TV.wNil, TV.wTest, TV.wChain, TV.wRet, TV.wRetN, TV.wNext, TV.wSet, TV.wDrop, TV.wFrz, TV.wMut, TV.wDisp, TV.wTup, TV.wOp, TV.wCall, TV.wDget, TV.wDput, TV.wFor, TV.wLc, TV.wiL, TV.wiT, TV.wiS, TV.wiR1, TV.wiR2, TV.wiEnumS, TV.wiEnum, TV.wgName, TV.wgTup, TV.wgCons, TV.wgNil, TV.wPar, TV.wPar3, TV.wAsg, TV.wUn, TV.wBM, TV.wApp, TV.wSetI, TV.wListC, TV.wSlL, TV.wSlS, TV.wSlT, TV.wNo, TV.wPart, TV.wYes, TV.wRev, TV.wMelt, TV.wNever, TV.wipe0, TV.wDictM, TV.wDictF, TV.wDict0F, TV.wPairs, List.getElem?_cons_zero, List.getElem?_cons_succ, List.set_cons_zero, List.set_cons_succ, Option.some.injEq, exists_eq_left', exists_eq_left, List.cons.injEq, and_true, true_and, TV.D.str.injEq, TV.D.int.injEq, TV.D.bl.injEq, TV.D.lst.injEq, TV.D.tup.injEq, TV.D.obj.injEq, List.map_cons, List.map_nil, TV.cmpD, TV.subD, TV.intD, TV.inSD, TV.ninSD, TV.isND, TV.notND, TV.isBD, TV.divmodC, TV.absC, isiC', TV.len_str, TV.len_lst, TV.len_tup, TV.tru_bl, TV.tru_int, TV.tru_str, TV.tru_lst, TV.tru_tup, TV.add_int, TV.add_str, TV.add_lst, TV.add_tup, TV.mul_int, TV.mul_str, TV.ix_str, TV.ix_lst, TV.ix_tup, TV.count_str, TV.eq_str, TV.ne_str, TV.eq_int, TV.ne_int, TV.eq_lst, TV.ne_lst, TV.sgx, TV.vw_non, TV.vw_bl, TV.vw_int, TV.vw_str, TV.vw_tup, TV.vw_lst, TV.vw_fro, TV.vw_dct, TV.key_str, TV.key_int, false_or, or_false, List.length_nil, TV.ty_non, TV.ty_bl, TV.ty_int, TV.ty_str, TV.ty_tup, TV.ty_lst, TV.ty_dct, TV.tn_str, TV.tn_int, TV.tn_bool, TV.tn_list, TV.tn_tuple, TV.tn_dict, TV.isT, String.reduceBEq, Bool.and_false, Bool.or_false, Bool.false_and, Bool.and_true, Bool.true_or, Bool.or_true, and_assoc, TV.D.ty.injEq, reduceCtorEq, exists_const, exists_and_left, exists_and_right, if_true, if_false, Bool.not_true, Bool.not_false, Bool.false_eq_true, reduceIte, TV.wExt, TV.wPop, TV.wPopAt, TV.wChg, TV.wAny, TV.wAug, TV.wWhile, TV.kgetD, TV.kinD, TV.wLenSet, TV.wLenO, TV.wEqO, TV.wMakeF, TV.wMeth, TV.wFld, TV.wSetF, TV.sumC, TV.minC, TV.maxC, TV.lcmC, TV.isiO, TV.wLc2, TV.wSlT, TV.wIsiT, List.append_nil, TV.wEither, TV.wGet2, TV.wDict1, TV.wDictZip, TV.sumIC, TV.wiZip, TV.wCallL, TV.mulTD]
    have hl : (("hold" : Str) == ("lag" : Str)) = false := by decide +kernel
    have jd : ("deal" : Str) ∉ (["join", "cross"] : List Str) := by decide +kernel
    have jh : ("hold" : Str) ∉ (["join", "cross"] : List Str) := by decide +kernel
    have ld : ¬ ("deal" : Str) = "lag" := by decide +kernel
    have lh : ¬ ("hold" : Str) = "lag" := by decide +kernel
    have good : ∀ wd, wd ∈ sixW → (wd ∈ (["join", "cross"] : List Str) → 2 ≤ fs.length) → (wd = "lag" → 1 ≤ room) → R { nx := fun x M => k D.non M, rt := k } [some (.obj p), some (.obj f), some (.obj q), some (.int room), some (.str wd), none, none, none, none] (st3 M0 p f q es1 fs ns) (fun x x_1 x_2 => False) :=
      fun wd a b c => hR _ _ ⟨wd, es1, rfl, rfl, p1, a, b, c⟩
    refine len_obj (at3_f ap) ⟨_, rfl, ?_⟩
    rw [List.length_map]
    by_cases c : fs.length < 2
    · rw [if_pos (decide_eq_true (by omega))]
      refine ⟨by decide, in_strs (ws := ["join", "cross"]) ⟨_, rfl, ?_⟩⟩
      cases e : decide (wd ∈ (["join", "cross"] : List Str)) with
      | true =>
        rw [if_pos rfl, hl]
        have := good "hold" (by decide +kernel) (fun h => absurd h jh) (fun h => absurd h lh)
        split
        · exact this
        · exact this
      | false =>
        rw [if_neg (by decide)]
        have e := of_decide_eq_false e
        split
        · split
          · exact good "deal" (by decide +kernel) (fun h => absurd h jd) (fun h => absurd h ld)
          · exact good wd hw (fun h => absurd h e) (fun h => absurd (beq_iff_eq.mpr h) (by assumption))
        · rename_i r0
          exact good wd hw (fun h => absurd h e) (fun h => by rw [decide_eq_true_eq] at r0; omega)
    · rw [if_neg (by rw [decide_eq_true_eq]; omega)]
      split
      · split
        · exact good "deal" (by decide +kernel) (fun h => absurd h jd) (fun h => absurd h ld)
        · exact good wd hw (fun h => by omega) (fun h => absurd (beq_iff_eq.mpr h) (by assumption))
      · rename_i r0
        exact good wd hw (fun h => by omega) (fun h => by rw [decide_eq_true_eq] at r0; omega)
  · rintro ρ' M' ⟨wd, es1, rfl, rfl, p1, hw, h2, h3⟩
    simp only [TV.wSeq, TV.wIf, TV.wOr, TV.wNot, TV.wAnd, TV.wAndV, TV.wOrV, TV.wNotV, TV.wIfE, TV.wTru, TV.wCB, TV.wCons, TV.wVar, TV.wC, TV.wNil, TV.wTest, TV.wChain, TV.wRet, TV.wRetN, TV.wNext, TV.wSet, TV.wDrop, TV.wFrz, TV.wMut, TV.wDisp, TV.wTup, TV.wOp, TV.wCall, TV.wDget, TV.wDput, TV.wFor, TV.wLc, TV.wiL, TV.wiT, TV.wiS, TV.wiR1, TV.wiR2, TV.wiEnumS, TV.wiEnum, TV.wgName, TV.wgTup, TV.wgCons, TV.wgNil, TV.wPar, TV.wPar3, TV.wAsg, TV.wUn, TV.wBM, TV.wApp, TV.wSetI, TV.wListC, TV.wSlL, TV.wSlS, TV.wSlT, TV.wNo, TV.wPart, TV.wYes, TV.wRev, TV.wMelt, TV.wNever, TV.wipe0, TV.wDictM, TV.wDictF, TV.wDict0F, TV.wPairs, List.getElem?_cons_zero, List.getElem?_cons_succ, List.set_cons_zero, List.set_cons_succ, Option.some.injEq, exists_eq_left', exists_eq_left, List.cons.injEq, and_true, true_and, TV.D.str.injEq, TV.D.int.injEq, TV.D.bl.injEq, TV.D.lst.injEq, TV.D.tup.injEq, TV.D.obj.injEq, List.map_cons, List.map_nil, TV.cmpD, TV.subD, TV.intD, TV.inSD, TV.ninSD, TV.isND, TV.notND, TV.isBD, TV.divmodC, TV.absC, isiC', TV.len_str, TV.len_lst, TV.len_tup, TV.tru_bl, TV.tru_int, TV.tru_str, TV.tru_lst, TV.tru_tup, TV.add_int, TV.add_str, TV.add_lst, TV.add_tup, TV.mul_int, TV.mul_str, TV.ix_str, TV.ix_lst, TV.ix_tup, TV.count_str, TV.eq_str, TV.ne_str, TV.eq_int, TV.ne_int, TV.eq_lst, TV.ne_lst, TV.sgx, TV.vw_non, TV.vw_bl, TV.vw_int, TV.vw_str, TV.vw_tup, TV.vw_lst, TV.vw_fro, TV.vw_dct, TV.key_str, TV.key_int, false_or, or_false, List.length_nil, TV.ty_non, TV.ty_bl, TV.ty_int, TV.ty_str, TV.ty_tup, TV.ty_lst, TV.ty_dct, TV.tn_str, TV.tn_int, TV.tn_bool, TV.tn_list, TV.tn_tuple, TV.tn_dict, TV.isT, String.reduceBEq, Bool.and_false, Bool.or_false, Bool.false_and, Bool.and_true, Bool.true_or, Bool.or_true, and_assoc, TV.D.ty.injEq, reduceCtorEq, exists_const, exists_and_left, exists_and_right, if_true, if_false, Bool.not_true, Bool.not_false, Bool.false_eq_true, reduceIte, TV.wExt, TV.wPop, TV.wPopAt, TV.wChg, TV.wAny, TV.wAug, TV.wWhile, TV.kgetD, TV.kinD, TV.wLenSet, TV.wLenO, TV.wEqO, TV.wMakeF, TV.wMeth, TV.wFld, TV.wSetF, TV.sumC, TV.minC, TV.maxC, TV.lcmC, TV.isiO, TV.wLc2, TV.wSlT, TV.wIsiT, List.append_nil, TV.wEither, TV.wGet2, TV.wDict1, TV.wDictZip, TV.sumIC, TV.wiZip, TV.wCallL, TV.mulTD]
    refine ⟨⟨_, at3_f ap⟩, len_obj (at3_f ap) (draw3 ap p1 (by omega) (by rw [List.length_map]; omega) (small_lt (by rw [List.length_map]; omega)) fun i es2 i0 i1 p2 => ?_)⟩
    rw [List.length_map] at i1
    have nd1 : fs.Nodup := (List.nodup_append.mp nd).1
    have nd2 : ns.Nodup := (List.nodup_append.mp nd).2.1
    have apart : ∀ a ∈ fs, ∀ b ∈ ns, a ≠ b := (List.nodup_append.mp nd).2.2
    obtain ⟨a, j, e1, e2, e3, ha, fl⟩ := pop_at nd1 i0 i1
    refine ⟨_, at3_f ap, i, rfl, by omega, by omega, j, e1, _, e2, ?_⟩
    rw [e3, st3_f ap]
    obtain ⟨ms, y, x, rfl⟩ : ∃ ms y x, ns = ms ++ [y] ++ [x] := by
      obtain ⟨l, x, e⟩ := snoc_of (by omega : 1 ≤ ns.length)
      obtain ⟨l2, y, e'⟩ := snoc_of (l := l) (by rw [e, List.length_append] at n0; simp at n0; omega)
      exact ⟨l2, y, x, by rw [e, e']⟩
    have okx := nm x (by simp)
    have oky := nm y (by simp)
    have oka := nm a (by simp [ha])
    have ax := apart a ha x (by simp)
    have ay := apart a ha y (by simp)
    have xy : x ≠ y := fun e => by subst e; simp [List.nodup_append] at nd2
    simp only [sixW, List.mem_cons, List.not_mem_nil, or_false] at hw
    rcases hw with rfl | rfl | rfl | rfl | rfl | rfl
    all_goals simp only [w1, w2, w3, w4, w5, w6, w7, w8, w9, w10, w11, w12, w13, w14, w15, w16, w17, w18, w19, w20, if_true, if_false, Bool.false_eq_true]
    · refine many3 ap p2 (by omega) r0 r1 fun c es3 c0 c1 p3 => ?_
      refine ⟨_, at3_q ap, _, last_map, ?_⟩
      rw [drop_map, st3_q ap]
      simp only [TV.wSeq, TV.wIf, TV.wOr, TV.wNot, TV.wAnd, TV.wAndV, TV.wOrV, TV.wNotV, TV.wIfE, TV.wTru, TV.wCB, TV.wCons, TV.wVar, TV.wC, TV.wNil, TV.wTest, TV.wChain, TV.wRet, TV.wRetN, TV.wNext, TV.wSet, TV.wDrop, TV.wFrz, TV.wMut, TV.wDisp, TV.wTup, TV.wOp, TV.wCall, TV.wDget, TV.wDput, TV.wFor, TV.wLc, TV.wiL, TV.wiT, TV.wiS, TV.wiR1, TV.wiR2, TV.wiEnumS, TV.wiEnum, TV.wgName, TV.wgTup, TV.wgCons, TV.wgNil, TV.wPar, TV.wPar3, TV.wAsg, TV.wUn, TV.wBM, TV.wApp, TV.wSetI, TV.wListC, TV.wSlL, TV.wSlS, TV.wSlT, TV.wNo, TV.wPart, TV.wYes, TV.wRev, TV.wMelt, TV.wNever, TV.wipe0, TV.wDictM, TV.wDictF, TV.wDict0F, TV.wPairs, List.getElem?_cons_zero, List.getElem?_cons_succ, List.set_cons_zero, List.set_cons_succ, Option.some.injEq, exists_eq_left', exists_eq_left, List.cons.injEq, and_true, true_and, TV.D.str.injEq, TV.D.int.injEq, TV.D.bl.injEq, TV.D.lst.injEq, TV.D.tup.injEq, TV.D.obj.injEq, List.map_cons, List.map_nil, TV.cmpD, TV.subD, TV.intD, TV.inSD, TV.ninSD, TV.isND, TV.notND, TV.isBD, TV.divmodC, TV.absC, isiC', TV.len_str, TV.len_lst, TV.len_tup, TV.tru_bl, TV.tru_int, TV.tru_str, TV.tru_lst, TV.tru_tup, TV.add_int, TV.add_str, TV.add_lst, TV.add_tup, TV.mul_int, TV.mul_str, TV.ix_str, TV.ix_lst, TV.ix_tup, TV.count_str, TV.eq_str, TV.ne_str, TV.eq_int, TV.ne_int, TV.eq_lst, TV.ne_lst, TV.sgx, TV.vw_non, TV.vw_bl, TV.vw_int, TV.vw_str, TV.vw_tup, TV.vw_lst, TV.vw_fro, TV.vw_dct, TV.key_str, TV.key_int, false_or, or_false, List.length_nil, TV.ty_non, TV.ty_bl, TV.ty_int, TV.ty_str, TV.ty_tup, TV.ty_lst, TV.ty_dct, TV.tn_str, TV.tn_int, TV.tn_bool, TV.tn_list, TV.tn_tuple, TV.tn_dict, TV.isT, String.reduceBEq, Bool.and_false, Bool.or_false, Bool.false_and, Bool.and_true, Bool.true_or, Bool.or_true, and_assoc, TV.D.ty.injEq, reduceCtorEq, exists_const, exists_and_left, exists_and_right, if_true, if_false, Bool.not_true, Bool.not_false, Bool.false_eq_true, reduceIte, TV.wExt, TV.wPop, TV.wPopAt, TV.wChg, TV.wAny, TV.wAug, TV.wWhile, TV.kgetD, TV.kinD, TV.wLenSet, TV.wLenO, TV.wEqO, TV.wMakeF, TV.wMeth, TV.wFld, TV.wSetF, TV.sumC, TV.minC, TV.maxC, TV.lcmC, TV.isiO, TV.wLc2, TV.wSlT, TV.wIsiT, List.append_nil, TV.wEither, TV.wGet2, TV.wDict1, TV.wDictZip, TV.sumIC, TV.wiZip, TV.wCallL, TV.mulTD]
      refine draw3 ap p3 (by omega) (by omega) (small_lt (by omega)) fun r es4 d0 d1 p4 => ⟨(show 3 ≤ 100000 by decide), pick3 ap p4 (by omega) rfl (show 1 ≤ 3 by decide) (show 3 ≤ 100000 by decide) fun d es5 hd p5 => ?_⟩
      obtain ⟨v, rfl, v0, v1⟩ : ∃ v, d = D.int v ∧ 0 ≤ v ∧ v ≤ c := by
        simp only [List.mem_cons, List.not_mem_nil, or_false] at hd
        rcases hd with h | h | h
        · exact ⟨_, h, by omega, by omega⟩
        · exact ⟨_, h, by omega, by omega⟩
        · exact ⟨_, h, by omega, by omega⟩
      exact ⟨(show 5 ≤ 100000 by decide), hk (.hold a x c v) (ms ++ [y]) es5 ⟨two okx oka, two_nd ax, c0, by omega, v0, v1⟩ (by rintro z hz; rw [List.mem_singleton.mp hz]; exact ha) rfl c1 (p5.up (by omega))⟩
    · refine many3 ap p2 (by omega) r0 r1 fun c es3 c0 c1 p3 => ?_
      refine ⟨_, at3_q ap, _, last_map, ?_⟩
      rw [drop_map, st3_q ap]
      simp only [TV.wSeq, TV.wIf, TV.wOr, TV.wNot, TV.wAnd, TV.wAndV, TV.wOrV, TV.wNotV, TV.wIfE, TV.wTru, TV.wCB, TV.wCons, TV.wVar, TV.wC, TV.wNil, TV.wTest, TV.wChain, TV.wRet, TV.wRetN, TV.wNext, TV.wSet, TV.wDrop, TV.wFrz, TV.wMut, TV.wDisp, TV.wTup, TV.wOp, TV.wCall, TV.wDget, TV.wDput, TV.wFor, TV.wLc, TV.wiL, TV.wiT, TV.wiS, TV.wiR1, TV.wiR2, TV.wiEnumS, TV.wiEnum, TV.wgName, TV.wgTup, TV.wgCons, TV.wgNil, TV.wPar, TV.wPar3, TV.wAsg, TV.wUn, TV.wBM, TV.wApp, TV.wSetI, TV.wListC, TV.wSlL, TV.wSlS, TV.wSlT, TV.wNo, TV.wPart, TV.wYes, TV.wRev, TV.wMelt, TV.wNever, TV.wipe0, TV.wDictM, TV.wDictF, TV.wDict0F, TV.wPairs, List.getElem?_cons_zero, List.getElem?_cons_succ, List.set_cons_zero, List.set_cons_succ, Option.some.injEq, exists_eq_left', exists_eq_left, List.cons.injEq, and_true, true_and, TV.D.str.injEq, TV.D.int.injEq, TV.D.bl.injEq, TV.D.lst.injEq, TV.D.tup.injEq, TV.D.obj.injEq, List.map_cons, List.map_nil, TV.cmpD, TV.subD, TV.intD, TV.inSD, TV.ninSD, TV.isND, TV.notND, TV.isBD, TV.divmodC, TV.absC, isiC', TV.len_str, TV.len_lst, TV.len_tup, TV.tru_bl, TV.tru_int, TV.tru_str, TV.tru_lst, TV.tru_tup, TV.add_int, TV.add_str, TV.add_lst, TV.add_tup, TV.mul_int, TV.mul_str, TV.ix_str, TV.ix_lst, TV.ix_tup, TV.count_str, TV.eq_str, TV.ne_str, TV.eq_int, TV.ne_int, TV.eq_lst, TV.ne_lst, TV.sgx, TV.vw_non, TV.vw_bl, TV.vw_int, TV.vw_str, TV.vw_tup, TV.vw_lst, TV.vw_fro, TV.vw_dct, TV.key_str, TV.key_int, false_or, or_false, List.length_nil, TV.ty_non, TV.ty_bl, TV.ty_int, TV.ty_str, TV.ty_tup, TV.ty_lst, TV.ty_dct, TV.tn_str, TV.tn_int, TV.tn_bool, TV.tn_list, TV.tn_tuple, TV.tn_dict, TV.isT, String.reduceBEq, Bool.and_false, Bool.or_false, Bool.false_and, Bool.and_true, Bool.true_or, Bool.or_true, and_assoc, TV.D.ty.injEq, reduceCtorEq, exists_const, exists_and_left, exists_and_right, if_true, if_false, Bool.not_true, Bool.not_false, Bool.false_eq_true, reduceIte, TV.wExt, TV.wPop, TV.wPopAt, TV.wChg, TV.wAny, TV.wAug, TV.wWhile, TV.kgetD, TV.kinD, TV.wLenSet, TV.wLenO, TV.wEqO, TV.wMakeF, TV.wMeth, TV.wFld, TV.wSetF, TV.sumC, TV.minC, TV.maxC, TV.lcmC, TV.isiO, TV.wLc2, TV.wSlT, TV.wIsiT, List.append_nil, TV.wEither, TV.wGet2, TV.wDict1, TV.wDictZip, TV.sumIC, TV.wiZip, TV.wCallL, TV.mulTD]
      refine ⟨.bl false, rfl, 0, rfl, (show 4 ≤ 100000 by decide), ?_⟩
      rw [if_neg (by omega)]
      exact hk (.wait a x c) (ms ++ [y]) es3 ⟨two okx oka, two_nd ax, c0, by omega⟩ (by rintro z hz; rw [List.mem_singleton.mp hz]; exact ha) rfl c1 (p3.up (by omega))
    · refine many3 ap p2 (by omega) r0 r1 fun c es3 c0 c1 p3 => ?_
      refine ⟨_, at3_q ap, _, last_map, ?_⟩
      rw [drop_map, st3_q ap]
      simp only [TV.wSeq, TV.wIf, TV.wOr, TV.wNot, TV.wAnd, TV.wAndV, TV.wOrV, TV.wNotV, TV.wIfE, TV.wTru, TV.wCB, TV.wCons, TV.wVar, TV.wC, TV.wNil, TV.wTest, TV.wChain, TV.wRet, TV.wRetN, TV.wNext, TV.wSet, TV.wDrop, TV.wFrz, TV.wMut, TV.wDisp, TV.wTup, TV.wOp, TV.wCall, TV.wDget, TV.wDput, TV.wFor, TV.wLc, TV.wiL, TV.wiT, TV.wiS, TV.wiR1, TV.wiR2, TV.wiEnumS, TV.wiEnum, TV.wgName, TV.wgTup, TV.wgCons, TV.wgNil, TV.wPar, TV.wPar3, TV.wAsg, TV.wUn, TV.wBM, TV.wApp, TV.wSetI, TV.wListC, TV.wSlL, TV.wSlS, TV.wSlT, TV.wNo, TV.wPart, TV.wYes, TV.wRev, TV.wMelt, TV.wNever, TV.wipe0, TV.wDictM, TV.wDictF, TV.wDict0F, TV.wPairs, List.getElem?_cons_zero, List.getElem?_cons_succ, List.set_cons_zero, List.set_cons_succ, Option.some.injEq, exists_eq_left', exists_eq_left, List.cons.injEq, and_true, true_and, TV.D.str.injEq, TV.D.int.injEq, TV.D.bl.injEq, TV.D.lst.injEq, TV.D.tup.injEq, TV.D.obj.injEq, List.map_cons, List.map_nil, TV.cmpD, TV.subD, TV.intD, TV.inSD, TV.ninSD, TV.isND, TV.notND, TV.isBD, TV.divmodC, TV.absC, isiC', TV.len_str, TV.len_lst, TV.len_tup, TV.tru_bl, TV.tru_int, TV.tru_str, TV.tru_lst, TV.tru_tup, TV.add_int, TV.add_str, TV.add_lst, TV.add_tup, TV.mul_int, TV.mul_str, TV.ix_str, TV.ix_lst, TV.ix_tup, TV.count_str, TV.eq_str, TV.ne_str, TV.eq_int, TV.ne_int, TV.eq_lst, TV.ne_lst, TV.sgx, TV.vw_non, TV.vw_bl, TV.vw_int, TV.vw_str, TV.vw_tup, TV.vw_lst, TV.vw_fro, TV.vw_dct, TV.key_str, TV.key_int, false_or, or_false, List.length_nil, TV.ty_non, TV.ty_bl, TV.ty_int, TV.ty_str, TV.ty_tup, TV.ty_lst, TV.ty_dct, TV.tn_str, TV.tn_int, TV.tn_bool, TV.tn_list, TV.tn_tuple, TV.tn_dict, TV.isT, String.reduceBEq, Bool.and_false, Bool.or_false, Bool.false_and, Bool.and_true, Bool.true_or, Bool.or_true, and_assoc, TV.D.ty.injEq, reduceCtorEq, exists_const, exists_and_left, exists_and_right, if_true, if_false, Bool.not_true, Bool.not_false, Bool.false_eq_true, reduceIte, TV.wExt, TV.wPop, TV.wPopAt, TV.wChg, TV.wAny, TV.wAug, TV.wWhile, TV.kgetD, TV.kinD, TV.wLenSet, TV.wLenO, TV.wEqO, TV.wMakeF, TV.wMeth, TV.wFld, TV.wSetF, TV.sumC, TV.minC, TV.maxC, TV.lcmC, TV.isiO, TV.wLc2, TV.wSlT, TV.wIsiT, List.append_nil, TV.wEither, TV.wGet2, TV.wDict1, TV.wDictZip, TV.sumIC, TV.wiZip, TV.wCallL, TV.mulTD]
      have r2 := h3 rfl
      refine ⟨.bl true, rfl, 1, rfl, (show 4 ≤ 100000 by decide), ?_⟩
      have lim : 1 ≤ (if (1 : Int) > c then 1 else c) ∧ (if (1 : Int) > c then 1 else c) ≤ room := by split <;> omega
      exact hk (.lag a x _) (ms ++ [y]) es3 ⟨two okx oka, two_nd ax, lim.1, by omega⟩ (by rintro z hz; rw [List.mem_singleton.mp hz]; exact ha) rfl lim.2 (p3.up (by omega))
    · refine draw3 ap p2 (by omega) (by decide) (small_lt (by decide)) fun r es3 c0 c1 p3 => ?_
      simp only [TV.wSeq, TV.wIf, TV.wOr, TV.wNot, TV.wAnd, TV.wAndV, TV.wOrV, TV.wNotV, TV.wIfE, TV.wTru, TV.wCB, TV.wCons, TV.wVar, TV.wC, TV.wNil, TV.wTest, TV.wChain, TV.wRet, TV.wRetN, TV.wNext, TV.wSet, TV.wDrop, TV.wFrz, TV.wMut, TV.wDisp, TV.wTup, TV.wOp, TV.wCall, TV.wDget, TV.wDput, TV.wFor, TV.wLc, TV.wiL, TV.wiT, TV.wiS, TV.wiR1, TV.wiR2, TV.wiEnumS, TV.wiEnum, TV.wgName, TV.wgTup, TV.wgCons, TV.wgNil, TV.wPar, TV.wPar3, TV.wAsg, TV.wUn, TV.wBM, TV.wApp, TV.wSetI, TV.wListC, TV.wSlL, TV.wSlS, TV.wSlT, TV.wNo, TV.wPart, TV.wYes, TV.wRev, TV.wMelt, TV.wNever, TV.wipe0, TV.wDictM, TV.wDictF, TV.wDict0F, TV.wPairs, List.getElem?_cons_zero, List.getElem?_cons_succ, List.set_cons_zero, List.set_cons_succ, Option.some.injEq, exists_eq_left', exists_eq_left, List.cons.injEq, and_true, true_and, TV.D.str.injEq, TV.D.int.injEq, TV.D.bl.injEq, TV.D.lst.injEq, TV.D.tup.injEq, TV.D.obj.injEq, List.map_cons, List.map_nil, TV.cmpD, TV.subD, TV.intD, TV.inSD, TV.ninSD, TV.isND, TV.notND, TV.isBD, TV.divmodC, TV.absC, isiC', TV.len_str, TV.len_lst, TV.len_tup, TV.tru_bl, TV.tru_int, TV.tru_str, TV.tru_lst, TV.tru_tup, TV.add_int, TV.add_str, TV.add_lst, TV.add_tup, TV.mul_int, TV.mul_str, TV.ix_str, TV.ix_lst, TV.ix_tup, TV.count_str, TV.eq_str, TV.ne_str, TV.eq_int, TV.ne_int, TV.eq_lst, TV.ne_lst, TV.sgx, TV.vw_non, TV.vw_bl, TV.vw_int, TV.vw_str, TV.vw_tup, TV.vw_lst, TV.vw_fro, TV.vw_dct, TV.key_str, TV.key_int, false_or, or_false, List.length_nil, TV.ty_non, TV.ty_bl, TV.ty_int, TV.ty_str, TV.ty_tup, TV.ty_lst, TV.ty_dct, TV.tn_str, TV.tn_int, TV.tn_bool, TV.tn_list, TV.tn_tuple, TV.tn_dict, TV.isT, String.reduceBEq, Bool.and_false, Bool.or_false, Bool.false_and, Bool.and_true, Bool.true_or, Bool.or_true, and_assoc, TV.D.ty.injEq, reduceCtorEq, exists_const, exists_and_left, exists_and_right, if_true, if_false, Bool.not_true, Bool.not_false, Bool.false_eq_true, reduceIte, TV.wExt, TV.wPop, TV.wPopAt, TV.wChg, TV.wAny, TV.wAug, TV.wWhile, TV.kgetD, TV.kinD, TV.wLenSet, TV.wLenO, TV.wEqO, TV.wMakeF, TV.wMeth, TV.wFld, TV.wSetF, TV.sumC, TV.minC, TV.maxC, TV.lcmC, TV.isiO, TV.wLc2, TV.wSlT, TV.wIsiT, List.append_nil, TV.wEither, TV.wGet2, TV.wDict1, TV.wDictZip, TV.sumIC, TV.wiZip, TV.wCallL, TV.mulTD]
      refine ⟨by omega, by omega, by rw [rng_len]; omega, fun i acc M' => ∃ (l : List Nat) (es' : List (Key × D)), l.length = i ∧ (∀ c ∈ l, c = 108 ∨ c = 114) ∧ acc = l.map (fun c => D.str ⟨#[c]⟩) ∧ penD (n + 1 + 1 + 1 + i) es' ∧ M' = st3 M0 p f q es' (fs.filter fun x => !decide (x ∈ [a])) (ms ++ [y] ++ [x]), ⟨[], es3, rfl, by simp, rfl, p3, rfl⟩, ?_, ?_⟩
      · rintro i d acc M' hi ⟨l, es', hl, hc, rfl, p4, rfl⟩
        obtain ⟨hi, rfl⟩ := rng_get hi
        refine ⟨by decide, pick3 ap p4 (by omega) rfl (by decide) (by decide) fun d es4 hd p5 => ?_⟩
        have ⟨c, hc1, hc2⟩ : ∃ c, d = D.str ⟨#[c]⟩ ∧ (c = 108 ∨ c = 114) := by
          have e1 : ("l" : Str) = ⟨#[108]⟩ := by decide +kernel
          have e2 : ("r" : Str) = ⟨#[114]⟩ := by decide +kernel
          simp only [List.mem_cons, List.not_mem_nil, or_false, e1, e2] at hd
          rcases hd with h | h
          · exact ⟨_, h, .inl rfl⟩
          · exact ⟨_, h, .inr rfl⟩
        subst hc1
        exact ⟨l ++ [c], es4, by simp [hl], by
          intro b hb
          rcases List.mem_append.mp hb with hb | hb
          · exact hc b hb
          · rw [List.mem_singleton.mp hb]; exact hc2, by simp, p5, rfl⟩
      · rintro acc M' ⟨l, es', hl, hc, rfl, p4, rfl⟩
        rw [rng_len] at hl p4
        have hl6 : l.length ≤ 6 := by omega
        refine ⟨_, _, l.map (fun c => (⟨#[c]⟩ : Str)), rfl, rfl, .inl (by rw [List.map_map]; rfl), ?_, ?_⟩
        · rw [sum_codes]; simp only [List.length_map]; show _ + _ * 0 ≤ _; omega
        rw [join_codes]
        refine ⟨_, at3_q ap, _, last_map, ?_⟩
        rw [drop_map, st3_q ap]
        refine ⟨_, at3_q ap, _, last_map, (show 5 ≤ 100000 by decide), ?_⟩
        rw [drop_map, st3_q ap]
        exact hk (.deal a x y (ofCodes l)) ms es' ⟨three oka okx oky, three_nd ax ay xy, by rw [codes_len]; omega, by rw [codes_len]; omega, by rw [codes_list]; exact hc⟩ (by rintro z hz; rw [List.mem_singleton.mp hz]; exact ha) (by simp [Gt.gv]) r0 (p4.up (by omega))
    · refine many3 ap p2 (by omega) r0 r1 fun c es3 c0 c1 p3 => ?_
      have two2 := h2 (by simp)
      refine ⟨⟨_, at3_f ap⟩, len_obj (at3_f ap) (draw3 ap p3 (by omega) (by rw [List.length_map]; omega) (small_lt (by rw [List.length_map]; omega)) fun i' es4 i0' i1' p4 => ?_)⟩
      rw [List.length_map] at i1'
      obtain ⟨b, j', e1', e2', e3', hb, fl'⟩ := pop_at (nd1.filter _) i0' i1'
      refine ⟨_, at3_f ap, i', rfl, by omega, by omega, j', e1', _, e2', ?_⟩
      rw [e3', st3_f ap, filt2]
      refine ⟨_, at3_q ap, _, last_map, (show 5 ≤ 100000 by decide), ?_⟩
      rw [drop_map, st3_q ap]
      have hb2 := List.mem_filter.mp hb
      have ab : a ≠ b := fun e => by subst e; simp at hb2
      exact hk (.join a b x c) (ms ++ [y]) es4 ⟨three oka (nm b (by simp [hb2.1])) okx, three_nd ab ax (apart b hb2.1 x (by simp)), c0, by omega⟩ (by
        rintro z hz
        simp only [Gt.tk, List.mem_cons, List.not_mem_nil, or_false] at hz
        rcases hz with rfl | rfl
        · exact ha
        · exact hb2.1) rfl c1 (p4.up (by omega))
    · have two2 := h2 (by simp)
      refine ⟨⟨_, at3_f ap⟩, len_obj (at3_f ap) (draw3 ap p2 (by omega) (by rw [List.length_map]; omega) (small_lt (by rw [List.length_map]; omega)) fun i' es4 i0' i1' p4 => ?_)⟩
      rw [List.length_map] at i1'
      obtain ⟨b, j', e1', e2', e3', hb, fl'⟩ := pop_at (nd1.filter _) i0' i1'
      refine ⟨_, at3_f ap, i', rfl, by omega, by omega, j', e1', _, e2', ?_⟩
      rw [e3', st3_f ap, filt2]
      refine ⟨_, at3_q ap, _, last_map, ?_⟩
      rw [drop_map, st3_q ap]
      refine ⟨_, at3_q ap, _, last_map, (show 5 ≤ 100000 by decide), ?_⟩
      rw [drop_map, st3_q ap]
      have hb2 := List.mem_filter.mp hb
      have ab : a ≠ b := fun e => by subst e; simp at hb2
      exact hk (.cross a b x y) ms es4 ⟨four oka (nm b (by simp [hb2.1])) okx oky, four_nd ab ax ay (apart b hb2.1 x (by simp)) (apart b hb2.1 y (by simp)) xy, trivial⟩ (by
        rintro z hz
        simp only [Gt.tk, List.mem_cons, List.not_mem_nil, or_false] at hz
        rcases hz with rfl | rfl
        · exact ha
        · exact hb2.1) (by simp [Gt.gv]) r0 (p4.up (by omega))
end
end K08

set_option Elab.async false
set_option linter.all false
set_option maxRecDepth 100000
set_option maxHeartbeats 2000000
namespace K08
open PySem PySem.Spec PyProof.Rows L2 TV
section
variable {P : Program} {w : World} {K : PySem.W.Frag} {mg : Str → Option Value} {base : Heap}
theorem nd_move {a m c : List Str} (h : (a ++ (m ++ c.reverse)).Nodup) : (a ++ c ++ m).Nodup := by
  refine (List.Perm.nodup_iff ?_).mp h
  rw [List.append_assoc]
  exact List.Perm.append_left a (List.perm_append_comm.trans ((List.reverse_perm c).append_right m))
theorem st3_new {M0 : MS} {p f q g : Addr} {es : List (Key × D)} {fs ns : List Str} {gs : List D} (ap : Ap p f q) (gp : g ≠ p) (gf : g ≠ f) (gq : g ≠ q) :
    updM (updM (updM (updM M0 q (.lst (ns.map D.str))) p (.dct es)) f (.lst (fs.map D.str))) g (.lst gs) = st3 (updM M0 g (.lst gs)) p f q es fs ns := by
  funext b
  unfold st3 updM
  have h1 := ap.pf
  have h2 := ap.pq
  have h3 := ap.fq
  by_cases b1 : b = g
  · subst b1; simp [gp, gf, gq]
  · by_cases b2 : b = f
    · subst b2; simp [b1, h3]
    · by_cases b3 : b = p
      · subst b3; simp [b1, b2, h2]
      · simp [b1, b2, b3]
theorem st3_in {M0 : MS} {p f q g : Addr} {es : List (Key × D)} {fs ns : List Str} {gs gs2 : List D} (ap : Ap p f q) (gp : g ≠ p) (gf : g ≠ f) (gq : g ≠ q) :
    updM (st3 (updM M0 g (.lst gs)) p f q es fs ns) g (.lst gs2) = st3 (updM M0 g (.lst gs2)) p f q es fs ns := by
  funext b
  unfold st3 updM
  by_cases b1 : b = g
  · subst b1; simp [gp, gf, gq]
  · simp [b1]
theorem st3_g {M0 : MS} {p f q g : Addr} {es : List (Key × D)} {fs ns : List Str} {gs : List D} (gp : g ≠ p) (gf : g ≠ f) (gq : g ≠ q) : st3 (updM M0 g (.lst gs)) p f q es fs ns g = some (.lst gs) := by
  unfold st3
  rw [updM_ne gq, updM_ne gf, updM_ne gp, updM_at]
def freeOf (F : List Str) (gs : List Gt) : List Str := gs.foldl stepFree F
def total (gs : List Gt) : Int := (gs.map Gt.sz).sum
theorem stands_snoc : ∀ {gs : List Gt} {L F : List Str} {s : Int} {g : Gt}, Stands L F s gs → g.ok → (∀ x ∈ g.tk, x ∈ freeOf F gs) → (∀ x ∈ g.gv, x ∉ L ++ gs.flatMap Gt.gv) → s + total gs + g.sz ≤ 12 → Stands L F s (gs ++ [g])
  | [], L, F, s, g, _, h1, h2, h3, h4 => ⟨h1, h2, by simpa using h3, by simpa [total] using h4, trivial⟩
  | a :: gs, L, F, s, g, h, h1, h2, h3, h4 => ⟨h.1, h.2.1, h.2.2.1, h.2.2.2.1, stands_snoc h.2.2.2.2 h1 h2 (by simpa [List.append_assoc] using h3) (by
      have : total (a :: gs) = a.sz + total gs := by simp [total]
      omega)⟩
theorem total_snoc (gs : List Gt) (g : Gt) : total (gs ++ [g]) = total gs + g.sz := by simp [total]
theorem free_snoc (F : List Str) (gs : List Gt) (g : Gt) : freeOf F (gs ++ [g]) = stepFree (freeOf F gs) g := by simp [freeOf]
theorem lanes_snoc (ins : List (Str × Str)) (gs : List Gt) (g : Gt) : lanesOf ins (gs ++ [g]) = lanesOf ins gs ++ g.gv := by simp [lanesOf]
/-- what stands when gates have been made -/
structure Made (ins : List (Str × Str)) (gs : List Gt) (ms : List Str) : Prop where
  st : Stands (ins.map Prod.fst) (ins.map Prod.fst) 0 gs
  n1 : (lanesOf ins gs ++ ms).Nodup
  n2 : (freeOf (ins.map Prod.fst) gs ++ ms).Nodup
  ok : ∀ s ∈ freeOf (ins.map Prod.fst) gs ++ ms, okName s
  few : (freeOf (ins.map Prod.fst) gs).length ≤ 3 + 2 * gs.length
  one : 1 ≤ (freeOf (ins.map Prod.fst) gs).length
  room : total gs ≤ 12
  nn : 0 ≤ total gs
  left : 21 ≤ ms.length + 2 * gs.length
  most : ms.length ≤ 24
theorem sz_nn {g : Gt} (h : g.ok) : 0 ≤ g.sz := by
  have := h.2.2
  cases g <;> simp only [Gt.okc, Gt.sz] at this ⊢ <;> omega
theorem ix_last {M : MS} {g : Addr} {xs : List D} {c : D} {q : D → Prop} (h : M g = some (.lst (xs ++ [c]))) (hq : q c) : ixD M (.obj g) (.int (-1)) q :=
  ⟨_, rfl, by
    rw [vw_obj_lst h]
    refine ⟨c, ?_, hq⟩
    unfold atI ixN
    rw [List.length_append, List.length_singleton, if_neg (by decide), if_pos (by omega)]
    rw [show (-1 + ((xs.length + 1 : Nat) : Int)).toNat = xs.length by omega]
    simp⟩
theorem Made.more {ins : List (Str × Str)} {gs : List Gt} {ms ms2 : List Str} {g : Gt} (m : Made ins gs ms) (h1 : g.ok) (h2 : ∀ x ∈ g.tk, x ∈ freeOf (ins.map Prod.fst) gs) (h3 : ms = ms2 ++ g.gv.reverse) (h4 : g.sz ≤ 12 - total gs) : Made ins (gs ++ [g]) ms2 := by
  subst h3
  have l2 : g.gv.length ≤ 2 ∧ 1 ≤ g.gv.length := by cases g <;> simp [Gt.gv]
  have nd := m.n1
  refine ⟨stands_snoc m.st h1 h2 (fun x hx hl => ?_) (by omega), ?_, ?_, ?_, ?_, ?_, ?_, ?_, ?_, ?_⟩
  · exact (List.nodup_append.mp nd).2.2 x hl x (by simp [hx]) rfl
  · rw [lanes_snoc]
    exact nd_move nd
  · rw [free_snoc]
    unfold stepFree
    refine nd_move (List.Nodup.sublist ?_ m.n2)
    exact List.Sublist.append_right List.filter_sublist _
  · intro s hs
    rw [free_snoc] at hs
    unfold stepFree at hs
    refine m.ok s ?_
    simp only [List.mem_append, List.mem_filter, List.mem_reverse] at hs ⊢
    rcases hs with (hs | hs) | hs
    · exact .inl hs.1
    · exact .inr (.inr hs)
    · exact .inr (.inl hs)
  · rw [free_snoc]
    unfold stepFree
    have := List.length_filter_le (fun x => !decide (x ∈ g.tk)) (freeOf (ins.map Prod.fst) gs)
    have := m.few
    rw [List.length_append, List.length_append, List.length_singleton]
    omega
  · rw [free_snoc]
    unfold stepFree
    rw [List.length_append]
    omega
  · rw [total_snoc]; omega
  · rw [total_snoc]; have := sz_nn h1; have := m.nn; omega
  · have := m.left
    rw [List.length_append, List.length_reverse] at this
    rw [List.length_append, List.length_singleton]
    omega
  · have := m.most
    rw [List.length_append, List.length_reverse] at this
    omega
def sp__law_web : DSp := fun ds M _ k => ds.length = 2 ∧ ∃ (p : Addr) (es : List (Key × D)) (n : Nat) (most : Int), ds = [.obj p, .int most] ∧ 0 ≤ most ∧ most ≤ 10 ∧ M p = some (.dct es) ∧ penD n es ∧ n < 800000 ∧
  ∀ (ins : List (Str × Str)) (gs : List Gt) (es2 : List (Key × D)), okWeb ins gs → (gs.length : Int) ≤ most → penD (n + 400) es2 → k (.tup [.lst (ins.map ilD), .lst (gs.map Gt.d)]) (updM M p (.dct es2))
theorem ok__law_web (T : Tx w K mg) : FnG P w K mg base CX0 4 T.f__law_web T.e__law_web ["_law_pen_here", "_law_most"] (rSp K sp__law_web) := by
  refine fnTW T.d__law_web.fn sc__law_web (fun ds M x k h => h.1) (by decide) (fun cdv A outer s H E rm => ?_) (fun ds M x k h => h)
  refine ⟨_, (yss_cons (ys_set (i := 2) sc__law_web.nd rfl (by first | exact Or.inl rfl | exact Or.inr rfl) (xcall (ok__law_names T) (rm.mono (by decide)) (by rfl) T.d__law_names.gl T.d__law_names.fn.kp T.d__law_names.bi pass0 (xa_cons (xv 0) (xa_cons xint xa_nil))))
      (yss_cons (ys_setLcF (i := 3) (own := [("_law_k", 7)]) (g := gName 7) rfl sc__law_web.nd rfl rfl (sw_true rfl rfl rfl (by decide +kernel)) (xi_range1 (by rfl) T.m_range (xa_cons (xe_op op_addD l_addD xint (xcall (ok__law_draw T) (rm.mono (by decide)) (by rfl) T.d__law_draw.gl T.d__law_draw.fn.kp T.d__law_draw.bi pass0 (xa_cons (xv 0) (xa_cons xint xa_nil)))) xa_nil)) (blkOk_by (N := ["_law_pen_here", "_law_most", "_law_names_here", "_law_inlets", "_law_free", "_law_gates", "_law_room_here", "_law_k", "_law_lane", "_law_rhythm_here"]) (sc := defScope s__law_web) (by decide +kernel)) (tg_name (by decide)) (fun _ _ _ _ _ => pg_name (i := 7) sc__law_web.nd rfl (by first | exact Or.inl rfl | exact Or.inr rfl)) (fun _ _ _ _ _ => xts_nil) (fun _ _ _ _ _ => (xe_tup (xa_cons (xe_pop (xv 2)) (xa_cons (xcall (ok__law_rhythm T) (rm.mono (by decide)) (by rfl) T.d__law_rhythm.gl T.d__law_rhythm.fn.kp T.d__law_rhythm.bi pass0 (xa_cons (xv 0) xa_nil)) xa_nil)))))
      (yss_cons (ys_par3 (i := 4) (j := 5) (l := 6) rfl sc__law_web.nd rfl rfl rfl (by decide) (by decide) (by decide) rfl rfl rfl (xa_cons (xl_mut (xl_lc (own := [("_law_lane", 8), ("_law_rhythm_here", 9)]) (g := gTup K 2 (gCons (gName 8) (gCons (gName 9) (gNil)))) rfl sc__law_web.nd (xi_list (xv 3)) (blkOk_by (N := ["_law_pen_here", "_law_most", "_law_names_here", "_law_inlets", "_law_free", "_law_gates", "_law_room_here", "_law_k", "_law_lane", "_law_rhythm_here"]) (sc := defScope s__law_web) (by decide +kernel)) (tg_tup2 (by decide) (by decide)) (fun _ _ _ _ _ => pg_tup rfl (pgs_cons (pg_name (i := 8) sc__law_web.nd rfl (by first | exact Or.inl rfl | exact Or.inr rfl)) (pgs_cons (pg_name (i := 9) sc__law_web.nd rfl (by first | exact Or.inl rfl | exact Or.inr rfl)) pgs_nil))) (fun _ _ _ _ _ => xts_nil) (fun _ _ _ _ _ => (xv 8)))) (xa_cons (xl_mut (xl_lst xa_nil)) (xa_cons xint xa_nil))) (by rfl))
      (yss_cons (ys_for PassesOwn.never rfl (xi_range1 (by rfl) T.m_range (xa_cons (xcall (ok__law_draw T) (rm.mono (by decide)) (by rfl) T.d__law_draw.gl T.d__law_draw.fn.kp T.d__law_draw.bi pass0 (xa_cons (xv 0) (xa_cons (xe_op op_addD l_addD (xv 1) xint) xa_nil))) xa_nil)) (xg_name (i := 7) sc__law_web.nd rfl (by first | exact Or.inl rfl | exact Or.inr rfl)) (yss_cons (ys_expr (xe_append (xv 5) (xcall (ok__law_gate T) (rm.mono (by decide)) (by rfl) T.d__law_gate.gl T.d__law_gate.fn.kp T.d__law_gate.bi pass0 (xa_cons (xv 0) (xa_cons (xv 4) (xa_cons (xv 2) (xa_cons (xv 6) xa_nil)))))))
      (yss_cons (ys_set (i := 6) sc__law_web.nd rfl (by first | exact Or.inl rfl | exact Or.inr rfl) (xe_op op_sub l_subD (xv 6) (xcall (ok__law_room T) (rm.mono (by decide)) (by rfl) T.d__law_room.gl T.d__law_room.fn.kp T.d__law_room.bi pass0 (xa_cons (xe_ix (xv 5) (xe_neg xint) (fun _ _ => rfl)) xa_nil))))
      (yss_one (ys_expr (xe_extend (xv 4) (xcall (ok__law_given T) (rm.mono (by decide)) (by rfl) T.d__law_given.gl T.d__law_given.fn.kp T.d__law_given.bi pass0 (xa_cons (xe_ix (xv 5) (xe_neg xint) (fun _ _ => rfl)) xa_nil))))))))
      (yss_one (ys_ret (xe_tup (xa_cons (xv 3) (xa_cons (xmelt 5) xa_nil))))))))), ?_⟩
  intro ds M k h
  obtain ⟨-, p, es, n, most, rfl, ms0, ms1, hM, hp, hn, hk⟩ := h
  rw [show start0 ["_law_pen_here", "_law_most", "_law_names_here", "_law_inlets", "_law_free", "_law_gates", "_law_room_here", "_law_k", "_law_lane", "_law_rhythm_here"] [D.obj p, D.int most] = [some (.obj p), some (.int most), none, none, none, none, none, none, none, none] from rfl]
  obtain ⟨M0, rfl⟩ : ∃ M0, M = updM M0 p (.dct es) := ⟨M, (updM_self hM).symm⟩
  simp only [updM_updM] at hk
  simp only [TV.wSeq, TV.wIf, TV.wOr, TV.wNot, TV.wAnd, TV.wAndV, TV.wOrV, TV.wNotV, TV.wIfE, TV.wTru, TV.wCB, TV.wCons, TV.wVar, TV.wC, TV.wNil, TV.wTest, TV.wChain, TV.wRet, TV.wRetN, TV.wNext, TV.wSet, TV.wDrop, TV.wFrz, TV.wMut, TV.wDisp, TV.wTup, TV.wOp, TV.wCall, TV.wDget, TV.wDput, TV.wFor, TV.wLc, TV.wiL, TV.wiT, TV.wiS, TV.wiR1, TV.wiR2, TV.wiEnumS, TV.wiEnum, TV.wgName, TV.wgTup, TV.wgCons, TV.wgNil, TV.wPar, TV.wPar3, TV.wAsg, TV.wUn, TV.wBM, TV.wApp, TV.wSetI, TV.wListC, TV.wSlL, TV.wSlS, TV.wSlT, TV.wNo, TV.wPart, TV.wYes, TV.wRev, TV.wMelt, TV.wNever, TV.wipe0, TV.wDictM, TV.wDictF, TV.wDict0F, TV.wPairs, List.getElem?_cons_zero, List.getElem?_cons_succ, List.set_cons_zero, List.set_cons_succ, Option.some.injEq, exists_eq_left', exists_eq_left, List.cons.injEq, and_true, true_and, TV.D.str.injEq, TV.D.int.injEq, TV.D.bl.injEq, TV.D.lst.injEq, TV.D.tup.injEq, TV.D.obj.injEq, List.map_cons, List.map_nil, TV.cmpD, TV.subD, TV.intD, TV.inSD, TV.ninSD, TV.isND, TV.notND, TV.isBD, TV.divmodC, TV.absC, isiC', TV.len_str, TV.len_lst, TV.len_tup, TV.tru_bl, TV.tru_int, TV.tru_str, TV.tru_lst, TV.tru_tup, TV.add_int, TV.add_str, TV.add_lst, TV.add_tup, TV.mul_int, TV.mul_str, TV.ix_str, TV.ix_lst, TV.ix_tup, TV.count_str, TV.eq_str, TV.ne_str, TV.eq_int, TV.ne_int, TV.eq_lst, TV.ne_lst, TV.sgx, TV.vw_non, TV.vw_bl, TV.vw_int, TV.vw_str, TV.vw_tup, TV.vw_lst, TV.vw_fro, TV.vw_dct, TV.key_str, TV.key_int, false_or, or_false, List.length_nil, TV.ty_non, TV.ty_bl, TV.ty_int, TV.ty_str, TV.ty_tup, TV.ty_lst, TV.ty_dct, TV.tn_str, TV.tn_int, TV.tn_bool, TV.tn_list, TV.tn_tuple, TV.tn_dict, TV.isT, String.reduceBEq, Bool.and_false, Bool.or_false, Bool.false_and, Bool.and_true, Bool.true_or, Bool.or_true, and_assoc, TV.D.ty.injEq, reduceCtorEq, exists_const, exists_and_left, exists_and_right, if_true, if_false, Bool.not_true, Bool.not_false, Bool.false_eq_true, reduceIte, TV.wExt, TV.wPop, TV.wPopAt, TV.wChg, TV.wAny, TV.wAug, TV.wWhile, TV.kgetD, TV.kinD, TV.wLenSet, TV.wLenO, TV.wEqO, TV.wMakeF, TV.wMeth, TV.wFld, TV.wSetF, TV.sumC, TV.minC, TV.maxC, TV.lcmC, TV.isiO, TV.wLc2, TV.wSlT, TV.wIsiT, List.append_nil, TV.wEither, TV.wGet2, TV.wDict1, TV.wDictZip, TV.sumIC, TV.wiZip, TV.wCallL, TV.mulTD]
  refine ⟨rfl, p, 24, n, es, rfl, updM_at, hp, by omega, by decide, by decide, fun ns es1 q hl hok hnd p1 hq => ?_⟩
  have qp : q ≠ p := fun e => by subst e; rw [updM_at] at hq; cases hq
  have hq0 : M0 q = none := by rw [updM_ne qp] at hq; exact hq
  rw [updM_updM, updM_comm (fun e => qp e.symm)]
  refine use_draw p1 (by omega) (by decide) (small_lt (by decide)) fun r es2 r0 r1 p2 => ?_
  simp only [TV.wSeq, TV.wIf, TV.wOr, TV.wNot, TV.wAnd, TV.wAndV, TV.wOrV, TV.wNotV, TV.wIfE, TV.wTru, TV.wCB, TV.wCons, TV.wVar, TV.wC, TV.wNil, TV.wTest, TV.wChain, TV.wRet, TV.wRetN, TV.wNext, TV.wSet, TV.wDrop, TV.wFrz, TV.wMut, TV.wDisp, TV.wTup, TV.wOp, TV.wCall, TV.wDget, TV.wDput, TV.wFor, TV.wLc, TV.wiL, TV.wiT, TV.wiS, TV.wiR1, TV.wiR2, TV.wiEnumS, TV.wiEnum, TV.wgName, TV.wgTup, TV.wgCons, TV.wgNil, TV.wPar, TV.wPar3, TV.wAsg, TV.wUn, TV.wBM, TV.wApp, TV.wSetI, TV.wListC, TV.wSlL, TV.wSlS, TV.wSlT, TV.wNo, TV.wPart, TV.wYes, TV.wRev, TV.wMelt, TV.wNever, TV.wipe0, TV.wDictM, TV.wDictF, TV.wDict0F, TV.wPairs, List.getElem?_cons_zero, List.getElem?_cons_succ, List.set_cons_zero, List.set_cons_succ, Option.some.injEq, exists_eq_left', exists_eq_left, List.cons.injEq, and_true, true_and, TV.D.str.injEq, TV.D.int.injEq, TV.D.bl.injEq, TV.D.lst.injEq, TV.D.tup.injEq, TV.D.obj.injEq, List.map_cons, List.map_nil, TV.cmpD, TV.subD, TV.intD, TV.inSD, TV.ninSD, TV.isND, TV.notND, TV.isBD, TV.divmodC, TV.absC, isiC', TV.len_str, TV.len_lst, TV.len_tup, TV.tru_bl, TV.tru_int, TV.tru_str, TV.tru_lst, TV.tru_tup, TV.add_int, TV.add_str, TV.add_lst, TV.add_tup, TV.mul_int, TV.mul_str, TV.ix_str, TV.ix_lst, TV.ix_tup, TV.count_str, TV.eq_str, TV.ne_str, TV.eq_int, TV.ne_int, TV.eq_lst, TV.ne_lst, TV.sgx, TV.vw_non, TV.vw_bl, TV.vw_int, TV.vw_str, TV.vw_tup, TV.vw_lst, TV.vw_fro, TV.vw_dct, TV.key_str, TV.key_int, false_or, or_false, List.length_nil, TV.ty_non, TV.ty_bl, TV.ty_int, TV.ty_str, TV.ty_tup, TV.ty_lst, TV.ty_dct, TV.tn_str, TV.tn_int, TV.tn_bool, TV.tn_list, TV.tn_tuple, TV.tn_dict, TV.isT, String.reduceBEq, Bool.and_false, Bool.or_false, Bool.false_and, Bool.and_true, Bool.true_or, Bool.or_true, and_assoc, TV.D.ty.injEq, reduceCtorEq, exists_const, exists_and_left, exists_and_right, if_true, if_false, Bool.not_true, Bool.not_false, Bool.false_eq_true, reduceIte, TV.wExt, TV.wPop, TV.wPopAt, TV.wChg, TV.wAny, TV.wAug, TV.wWhile, TV.kgetD, TV.kinD, TV.wLenSet, TV.wLenO, TV.wEqO, TV.wMakeF, TV.wMeth, TV.wFld, TV.wSetF, TV.sumC, TV.minC, TV.maxC, TV.lcmC, TV.isiO, TV.wLc2, TV.wSlT, TV.wIsiT, List.append_nil, TV.wEither, TV.wGet2, TV.wDict1, TV.wDictZip, TV.sumIC, TV.wiZip, TV.wCallL, TV.mulTD]
  refine ⟨by omega, by omega, by rw [rng_len]; omega, fun i acc M' => ∃ (ins : List (Str × Str)) (ms : List Str) (es' : List (Key × D)), ins.length = i ∧ acc = ins.map ilD ∧ (∀ p ∈ ins, okInl p) ∧ (ins.map Prod.fst ++ ms).Nodup ∧ (∀ s ∈ ms, okName s) ∧ ms.length + i = 24 ∧ penD (n + 14 + 8 * i) es' ∧ M' = updM (updM M0 q (.lst (ms.map D.str))) p (.dct es'),
    ⟨[], ns, es2, rfl, rfl, by simp, by simpa using hnd, hok, by omega, p2, rfl⟩, ?_, ?_⟩
  · rintro i d acc M' hi ⟨ins, ms, es', hi2, rfl, oi, nd, hok2, left, p3, rfl⟩
    obtain ⟨hi, rfl⟩ := rng_get hi
    obtain ⟨ms, x, rfl⟩ := snoc_of (by omega : 1 ≤ ms.length)
    refine ⟨_, by rw [updM_ne qp, updM_at], _, last_map, ?_⟩
    rw [drop_map, updM_comm (fun e => qp e.symm), updM_updM]
    refine ⟨rfl, p, _, es', rfl, updM_at, p3, by omega, fun z es3 rz p4 => ⟨(show 2 ≤ 100000 by decide), ins ++ [(x, z)], ms, es3, by simp [hi2], by simp [ilD], ?_, ?_, fun s hs => hok2 s (by simp [hs]), by simp at left; omega, p4.up (by omega), by rw [updM_updM]⟩⟩
    · intro c hc
      rcases List.mem_append.mp hc with hc | hc
      · exact oi c hc
      · rw [List.mem_singleton.mp hc]; exact ⟨hok2 x (by simp), rz⟩
    · have := nd_move (c := [x]) nd
      simpa using this
  · rintro acc M' ⟨ins, ms, es', hi2, rfl, oi, nd, hok2, left, p3, rfl⟩
    rw [rng_len] at hi2 left p3
    have few : ins.length ≤ 3 := by omega
    refine ⟨by rw [List.length_map]; omega, fun i acc M' => M' = updM (updM M0 q (.lst (ms.map D.str))) p (.dct es') ∧ acc = ((ins.take i).map Prod.fst).map D.str, ⟨rfl, rfl⟩, ?_, ?_⟩
    · rintro i e acc M' he ⟨rfl, rfl⟩
      obtain ⟨c, h2, rfl⟩ := map_get he
      refine ⟨_, rfl, rfl, _, _, rfl, _, _, rfl, rfl, rfl, ?_⟩
      rw [List.take_add_one, h2]
      simp
    · rintro acc M' ⟨rfl, rfl⟩ f hf
      rw [List.length_map, List.take_length]
      refine ⟨by decide, fun g hg => ?_⟩
      have fp : f ≠ p := fun e => by subst e; rw [updM_at] at hf; cases hf
      have fq : f ≠ q := fun e => by subst e; rw [updM_ne qp, updM_at] at hf; cases hf
      have gf : g ≠ f := fun e => by subst e; rw [updM_at] at hg; cases hg
      rw [updM_ne gf] at hg
      have gp : g ≠ p := fun e => by subst e; rw [updM_at] at hg; cases hg
      have gq : g ≠ q := fun e => by subst e; rw [updM_ne qp, updM_at] at hg; cases hg
      have hf0 : M0 f = none := by rw [updM_ne fp, updM_ne fq] at hf; exact hf
      have hg0 : M0 g = none := by rw [updM_ne gp, updM_ne gq] at hg; exact hg
      have ap : Ap p f q := ⟨fun e => fp e.symm, fun e => qp e.symm, fq⟩
      rw [show ([] : List D) = ([] : List Gt).map Gt.d from rfl, st3_new ap gp gf gq]
      refine draw3 ap p3 (by omega) (by omega) (small_lt (by omega)) fun turns es3 t0 t1 p4 => ?_
      have first : Made ins [] ms := ⟨trivial, by simpa [lanesOf] using nd, nd, fun s hs => ?_, by simp [freeOf]; omega, by simp [freeOf]; omega, by decide, by decide, by simp; omega, by omega⟩
      simp only [TV.wSeq, TV.wIf, TV.wOr, TV.wNot, TV.wAnd, TV.wAndV, TV.wOrV, TV.wNotV, TV.wIfE, TV.wTru, TV.wCB, TV.wCons, TV.wVar, TV.wC, TV.wNil, TV.wTest, TV.wChain, TV.wRet, TV.wRetN, TV.wNext, TV.wSet, TV.wDrop, TV.wFrz, TV.wMut, TV.wDisp, TV.wTup, TV.wOp, TV.wCall, TV.wDget, TV.wDput, TV.wFor, TV.wLc, TV.wiL, TV.wiT, TV.wiS, TV.wiR1, TV.wiR2, TV.wiEnumS, TV.wiEnum, TV.wgName, TV.wgTup, TV.wgCons, TV.wgNil, TV.wPar, TV.wPar3, TV.wAsg, TV.wUn, TV.wBM, TV.wApp, TV.wSetI, TV.wListC, TV.wSlL, TV.wSlS, TV.wSlT, TV.wNo, TV.wPart, TV.wYes, TV.wRev, TV.wMelt, TV.wNever, TV.wipe0, TV.wDictM, TV.wDictF, TV.wDict0F, TV.wPairs, List.getElem?_cons_zero, List.getElem?_cons_succ, List.set_cons_zero, List.set_cons_succ, Option.some.injEq, exists_eq_left', exists_eq_left, List.cons.injEq, and_true, true_and, TV.D.str.injEq, TV.D.int.injEq, TV.D.bl.injEq, TV.D.lst.injEq, TV.D.tup.injEq, TV.D.obj.injEq, List.map_cons, List.map_nil, TV.cmpD, TV.subD, TV.intD, TV.inSD, TV.ninSD, TV.isND, TV.notND, TV.isBD, TV.divmodC, TV.absC, isiC', TV.len_str, TV.len_lst, TV.len_tup, TV.tru_bl, TV.tru_int, TV.tru_str, TV.tru_lst, TV.tru_tup, TV.add_int, TV.add_str, TV.add_lst, TV.add_tup, TV.mul_int, TV.mul_str, TV.ix_str, TV.ix_lst, TV.ix_tup, TV.count_str, TV.eq_str, TV.ne_str, TV.eq_int, TV.ne_int, TV.eq_lst, TV.ne_lst, TV.sgx, TV.vw_non, TV.vw_bl, TV.vw_int, TV.vw_str, TV.vw_tup, TV.vw_lst, TV.vw_fro, TV.vw_dct, TV.key_str, TV.key_int, false_or, or_false, List.length_nil, TV.ty_non, TV.ty_bl, TV.ty_int, TV.ty_str, TV.ty_tup, TV.ty_lst, TV.ty_dct, TV.tn_str, TV.tn_int, TV.tn_bool, TV.tn_list, TV.tn_tuple, TV.tn_dict, TV.isT, String.reduceBEq, Bool.and_false, Bool.or_false, Bool.false_and, Bool.and_true, Bool.true_or, Bool.or_true, and_assoc, TV.D.ty.injEq, reduceCtorEq, exists_const, exists_and_left, exists_and_right, if_true, if_false, Bool.not_true, Bool.not_false, Bool.false_eq_true, reduceIte, TV.wExt, TV.wPop, TV.wPopAt, TV.wChg, TV.wAny, TV.wAug, TV.wWhile, TV.kgetD, TV.kinD, TV.wLenSet, TV.wLenO, TV.wEqO, TV.wMakeF, TV.wMeth, TV.wFld, TV.wSetF, TV.sumC, TV.minC, TV.maxC, TV.lcmC, TV.isiO, TV.wLc2, TV.wSlT, TV.wIsiT, List.append_nil, TV.wEither, TV.wGet2, TV.wDict1, TV.wDictZip, TV.sumIC, TV.wiZip, TV.wCallL, TV.mulTD]
      refine ⟨by omega, by omega, fun i ρ' M' => ∃ (gs : List Gt) (ms : List Str) (es' : List (Key × D)) (dk : Option D), gs.length = i ∧ Made ins gs ms ∧ penD (n + 40 + 16 * i) es' ∧ ρ' = [some (.obj p), some (.int most), some (.obj q), some (.lst (ins.map ilD)), some (.obj f), some (.obj g), some (.int (12 - total gs)), dk, none, none] ∧
        M' = st3 (updM M0 g (.lst (gs.map Gt.d))) p f q es' (freeOf (ins.map Prod.fst) gs) ms, ⟨[], ms, es3, none, rfl, first, p4.up (by omega), rfl, rfl⟩, ?_, ?_⟩
      · rintro i e ρ' M' he ⟨gs, ms, es4, dk, hi3, md, p5, rfl, rfl⟩
        obtain ⟨hi, rfl⟩ := rng_get he
        simp only [TV.wSeq, TV.wIf, TV.wOr, TV.wNot, TV.wAnd, TV.wAndV, TV.wOrV, TV.wNotV, TV.wIfE, TV.wTru, TV.wCB, TV.wCons, TV.wVar, TV.wC, TV.wNil, TV.wTest, TV.wChain, TV.wRet, TV.wRetN, TV.wNext, TV.wSet, TV.wDrop, TV.wFrz, TV.wMut, TV.wDisp, TV.wTup, TV.wOp, TV.wCall, TV.wDget, TV.wDput, TV.wFor, TV.wLc, TV.wiL, TV.wiT, TV.wiS, TV.wiR1, TV.wiR2, TV.wiEnumS, TV.wiEnum, TV.wgName, TV.wgTup, TV.wgCons, TV.wgNil, TV.wPar, TV.wPar3, TV.wAsg, TV.wUn, TV.wBM, TV.wApp, TV.wSetI, TV.wListC, TV.wSlL, TV.wSlS, TV.wSlT, TV.wNo, TV.wPart, TV.wYes, TV.wRev, TV.wMelt, TV.wNever, TV.wipe0, TV.wDictM, TV.wDictF, TV.wDict0F, TV.wPairs, List.getElem?_cons_zero, List.getElem?_cons_succ, List.set_cons_zero, List.set_cons_succ, Option.some.injEq, exists_eq_left', exists_eq_left, List.cons.injEq, and_true, true_and, TV.D.str.injEq, TV.D.int.injEq, TV.D.bl.injEq, TV.D.lst.injEq, TV.D.tup.injEq, TV.D.obj.injEq, List.map_cons, List.map_nil, TV.cmpD, TV.subD, TV.intD, TV.inSD, TV.ninSD, TV.isND, TV.notND, TV.isBD, TV.divmodC, TV.absC, isiC', TV.len_str, TV.len_lst, TV.len_tup, TV.tru_bl, TV.tru_int, TV.tru_str, TV.tru_lst, TV.tru_tup, TV.add_int, TV.add_str, TV.add_lst, TV.add_tup, TV.mul_int, TV.mul_str, TV.ix_str, TV.ix_lst, TV.ix_tup, TV.count_str, TV.eq_str, TV.ne_str, TV.eq_int, TV.ne_int, TV.eq_lst, TV.ne_lst, TV.sgx, TV.vw_non, TV.vw_bl, TV.vw_int, TV.vw_str, TV.vw_tup, TV.vw_lst, TV.vw_fro, TV.vw_dct, TV.key_str, TV.key_int, false_or, or_false, List.length_nil, TV.ty_non, TV.ty_bl, TV.ty_int, TV.ty_str, TV.ty_tup, TV.ty_lst, TV.ty_dct, TV.tn_str, TV.tn_int, TV.tn_bool, TV.tn_list, TV.tn_tuple, TV.tn_dict, TV.isT, String.reduceBEq, Bool.and_false, Bool.or_false, Bool.false_and, Bool.and_true, Bool.true_or, Bool.or_true, and_assoc, TV.D.ty.injEq, reduceCtorEq, exists_const, exists_and_left, exists_and_right, if_true, if_false, Bool.not_true, Bool.not_false, Bool.false_eq_true, reduceIte, TV.wExt, TV.wPop, TV.wPopAt, TV.wChg, TV.wAny, TV.wAug, TV.wWhile, TV.kgetD, TV.kinD, TV.wLenSet, TV.wLenO, TV.wEqO, TV.wMakeF, TV.wMeth, TV.wFld, TV.wSetF, TV.sumC, TV.minC, TV.maxC, TV.lcmC, TV.isiO, TV.wLc2, TV.wSlT, TV.wIsiT, List.append_nil, TV.wEither, TV.wGet2, TV.wDict1, TV.wDictZip, TV.sumIC, TV.wiZip, TV.wCallL, TV.mulTD]
        have l9 : i ≤ 9 := by omega
        have f1 := md.few
        have f2 := md.left
        have f3 := md.room
        have f4 := md.nn
        have f5 := md.most
        refine ⟨⟨_, st3_g gp gf gq⟩, rfl, p, f, q, 12 - total gs, _, es4, _, ms, _, rfl, ap, rfl, p5, by omega, by omega, by omega, md.one, by omega, by omega, by omega, md.n2, md.ok, fun g2 ms2 es5 gok tkin nsE szle p6 => ⟨_, st3_g gp gf gq, by rw [List.length_map]; omega, ?_⟩⟩
        rw [st3_in ap gp gf gq]
        refine ix_last (st3_g gp gf gq) ⟨rfl, g2, rfl, g2.sz, rfl, ⟨_, at3_f ap⟩, ix_last (st3_g gp gf gq) ⟨rfl, g2, rfl, _, at3_f ap, _, .inr rfl, ?_, gs ++ [g2], by simp [hi3], ms2, md.more gok tkin nsE szle, es5, p6.up (by omega), by rw [total_snoc]; omega, ?_⟩⟩
        · have l2 : g2.gv.length ≤ 2 := by cases g2 <;> simp [Gt.gv]
          have := List.length_filter_le (fun x => !decide (x ∈ g2.tk)) (freeOf (ins.map Prod.fst) gs)
          rw [List.length_map, List.length_map]
          omega
        · rw [← List.map_append, st3_f ap, free_snoc, List.map_append]
          rfl
      · rintro ρ' M' ⟨gs, ms, es4, dk, hi3, md, p5, rfl, rfl⟩
        rw [rng_len] at hi3 p5
        simp only [TV.wSeq, TV.wIf, TV.wOr, TV.wNot, TV.wAnd, TV.wAndV, TV.wOrV, TV.wNotV, TV.wIfE, TV.wTru, TV.wCB, TV.wCons, TV.wVar, TV.wC, TV.wNil, TV.wTest, TV.wChain, TV.wRet, TV.wRetN, TV.wNext, TV.wSet, TV.wDrop, TV.wFrz, TV.wMut, TV.wDisp, TV.wTup, TV.wOp, TV.wCall, TV.wDget, TV.wDput, TV.wFor, TV.wLc, TV.wiL, TV.wiT, TV.wiS, TV.wiR1, TV.wiR2, TV.wiEnumS, TV.wiEnum, TV.wgName, TV.wgTup, TV.wgCons, TV.wgNil, TV.wPar, TV.wPar3, TV.wAsg, TV.wUn, TV.wBM, TV.wApp, TV.wSetI, TV.wListC, TV.wSlL, TV.wSlS, TV.wSlT, TV.wNo, TV.wPart, TV.wYes, TV.wRev, TV.wMelt, TV.wNever, TV.wipe0, TV.wDictM, TV.wDictF, TV.wDict0F, TV.wPairs, List.getElem?_cons_zero, List.getElem?_cons_succ, List.set_cons_zero, List.set_cons_succ, Option.some.injEq, exists_eq_left', exists_eq_left, List.cons.injEq, and_true, true_and, TV.D.str.injEq, TV.D.int.injEq, TV.D.bl.injEq, TV.D.lst.injEq, TV.D.tup.injEq, TV.D.obj.injEq, List.map_cons, List.map_nil, TV.cmpD, TV.subD, TV.intD, TV.inSD, TV.ninSD, TV.isND, TV.notND, TV.isBD, TV.divmodC, TV.absC, isiC', TV.len_str, TV.len_lst, TV.len_tup, TV.tru_bl, TV.tru_int, TV.tru_str, TV.tru_lst, TV.tru_tup, TV.add_int, TV.add_str, TV.add_lst, TV.add_tup, TV.mul_int, TV.mul_str, TV.ix_str, TV.ix_lst, TV.ix_tup, TV.count_str, TV.eq_str, TV.ne_str, TV.eq_int, TV.ne_int, TV.eq_lst, TV.ne_lst, TV.sgx, TV.vw_non, TV.vw_bl, TV.vw_int, TV.vw_str, TV.vw_tup, TV.vw_lst, TV.vw_fro, TV.vw_dct, TV.key_str, TV.key_int, false_or, or_false, List.length_nil, TV.ty_non, TV.ty_bl, TV.ty_int, TV.ty_str, TV.ty_tup, TV.ty_lst, TV.ty_dct, TV.tn_str, TV.tn_int, TV.tn_bool, TV.tn_list, TV.tn_tuple, TV.tn_dict, TV.isT, String.reduceBEq, Bool.and_false, Bool.or_false, Bool.false_and, Bool.and_true, Bool.true_or, Bool.or_true, and_assoc, TV.D.ty.injEq, reduceCtorEq, exists_const, exists_and_left, exists_and_right, if_true, if_false, Bool.not_true, Bool.not_false, Bool.false_eq_true, reduceIte, TV.wExt, TV.wPop, TV.wPopAt, TV.wChg, TV.wAny, TV.wAug, TV.wWhile, TV.kgetD, TV.kinD, TV.wLenSet, TV.wLenO, TV.wEqO, TV.wMakeF, TV.wMeth, TV.wFld, TV.wSetF, TV.sumC, TV.minC, TV.maxC, TV.lcmC, TV.isiO, TV.wLc2, TV.wSlT, TV.wIsiT, List.append_nil, TV.wEither, TV.wGet2, TV.wDict1, TV.wDictZip, TV.sumIC, TV.wiZip, TV.wCallL, TV.mulTD]
        refine .inl ⟨_, st3_g gp gf gq, (show 2 ≤ 100000 by decide), updM M0 p (.dct es4), ?_, hk ins gs es4 ⟨⟨by omega, few, oi, ?_⟩, by omega, md.st⟩ (by omega) (p5.up (by omega))⟩
        · intro a m e
          by_cases ep : a = p
          · subst ep
            rw [updM_at] at e
            unfold delM
            rw [if_neg (fun z => gp z.symm), at3_p ap]
            exact e
          · rw [updM_ne ep] at e
            have ag : a ≠ g := fun z => by rw [z, hg0] at e; cases e
            have af : a ≠ f := fun z => by rw [z, hf0] at e; cases e
            have aq : a ≠ q := fun z => by rw [z, hq0] at e; cases e
            unfold delM st3
            rw [if_neg ag, updM_ne aq, updM_ne af, updM_ne ep, updM_ne ag]
            exact e
        · exact (List.nodup_append.mp nd).1
      · rcases List.mem_append.mp hs with hs | hs
        · obtain ⟨c, hc, rfl⟩ := List.mem_map.mp hs
          exact (oi c hc).1
        · exact hok2 s hs
end
end K08

set_option Elab.async false
set_option linter.all false
set_option maxRecDepth 100000
set_option maxHeartbeats 2000000
namespace K08
open PySem PySem.Spec PyProof.Rows L2 TV
section
variable {P : Program} {w : World} {K : PySem.W.Frag} {mg : Str → Option Value} {base : Heap}
/-! rhythms -/
def cnt (z : Str) : Int := Txt.count z "x"
def sg (z : Str) (i : Int) : Bool := decide (z.cps.toList[i.toNat]? = some 120)
def takesB (z : Str) (b : Int) : Bool := decide (1 ≤ b) && sg z ((b - 1) % z.length)
def sp_takes : DSp := fun ds M _ k => ds.length = 2 ∧ ∃ z b, ds = [.str z, .int b] ∧ 1 ≤ z.length ∧ z.length ≤ 100000 ∧ k (.bl (takesB z b)) M
theorem ok_takes (T : Tx w K mg) : FnG P w K mg base CX0 1 T.f_takes T.e_takes ["rhythm", "beat"] (rSp K sp_takes) := by
  refine fnT T.d_takes.fn sc_takes (fun ds M x k h => h.1) (by decide) (fun cdv A outer s H E rm => ?_) (fun ds M x k h => h)
  refine ⟨_, (yss_one (ys_ret (xe_and (xe_cmp op_ge l_cmpD (xv 1) xint (nomark _)) (xe_one (xe_cmp (op_eqE rm.u64) l_eqE (xe_ix (xv 0) (xe_op op_mod l_intD (xe_op op_sub l_subD (xv 1) xint) (xe_callB call_lenD' l_lenC (by rfl) T.m_len (by decide +kernel) (xa_cons (xv 0) xa_nil))) (fun _ _ => rfl)) xstr (nomark _)))))), ?_⟩
  intro ds M k h
  obtain ⟨-, z, b, rfl, h1, h2, hk⟩ := h
  rw [show start0 ["rhythm", "beat"] [D.str z, D.int b] = [some (.str z), some (.int b)] from rfl]
  simp only [TV.wSeq, TV.wIf, TV.wOr, TV.wNot, TV.wAnd, TV.wAndV, TV.wOrV, TV.wNotV, TV.wIfE, TV.wTru, TV.wCB, TV.wCons, TV.wVar, TV.wC, TV.wNil, TV.wTest, TV.wChain, TV.wRet, TV.wRetN, TV.wNext, TV.wSet, TV.wDrop, TV.wFrz, TV.wMut, TV.wDisp, TV.wTup, TV.wOp, TV.wCall, TV.wDget, TV.wDput, TV.wFor, TV.wLc, TV.wiL, TV.wiT, TV.wiS, TV.wiR1, TV.wiR2, TV.wiEnumS, TV.wiEnum, TV.wgName, TV.wgTup, TV.wgCons, TV.wgNil, TV.wPar, TV.wPar3, TV.wAsg, TV.wUn, TV.wBM, TV.wApp, TV.wSetI, TV.wListC, TV.wSlL, TV.wSlS, TV.wSlT, TV.wNo, TV.wPart, TV.wYes, TV.wRev, TV.wMelt, TV.wNever, TV.wipe0, TV.wDictM, TV.wDictF, TV.wDict0F, TV.wPairs, List.getElem?_cons_zero, List.getElem?_cons_succ, List.set_cons_zero, List.set_cons_succ, Option.some.injEq, exists_eq_left', exists_eq_left, List.cons.injEq, and_true, true_and, TV.D.str.injEq, TV.D.int.injEq, TV.D.bl.injEq, TV.D.lst.injEq, TV.D.tup.injEq, TV.D.obj.injEq, List.map_cons, List.map_nil, TV.cmpD, TV.subD, TV.intD, TV.inSD, TV.ninSD, TV.isND, TV.notND, TV.isBD, TV.divmodC, TV.absC, isiC', TV.len_str, TV.len_lst, TV.len_tup, TV.tru_bl, TV.tru_int, TV.tru_str, TV.tru_lst, TV.tru_tup, TV.add_int, TV.add_str, TV.add_lst, TV.add_tup, TV.mul_int, TV.mul_str, TV.ix_str, TV.ix_lst, TV.ix_tup, TV.count_str, TV.eq_str, TV.ne_str, TV.eq_int, TV.ne_int, TV.eq_lst, TV.ne_lst, TV.sgx, TV.vw_non, TV.vw_bl, TV.vw_int, TV.vw_str, TV.vw_tup, TV.vw_lst, TV.vw_fro, TV.vw_dct, TV.key_str, TV.key_int, false_or, or_false, List.length_nil, TV.ty_non, TV.ty_bl, TV.ty_int, TV.ty_str, TV.ty_tup, TV.ty_lst, TV.ty_dct, TV.tn_str, TV.tn_int, TV.tn_bool, TV.tn_list, TV.tn_tuple, TV.tn_dict, TV.isT, String.reduceBEq, Bool.and_false, Bool.or_false, Bool.false_and, Bool.and_true, Bool.true_or, Bool.or_true, and_assoc, TV.D.ty.injEq, reduceCtorEq, exists_const, exists_and_left, exists_and_right, if_true, if_false, Bool.not_true, Bool.not_false, Bool.false_eq_true, reduceIte, TV.wExt, TV.wPop, TV.wPopAt, TV.wChg, TV.wAny, TV.wAug, TV.wWhile, TV.kgetD, TV.kinD, TV.wLenSet, TV.wLenO, TV.wEqO, TV.wMakeF, TV.wMeth, TV.wFld, TV.wSetF, TV.sumC, TV.minC, TV.maxC, TV.lcmC, TV.isiO, TV.wLc2, TV.wSlT, TV.wIsiT, List.append_nil, TV.wEither, TV.wGet2, TV.wDict1, TV.wDictZip, TV.sumIC, TV.wiZip, TV.wCallL, TV.mulTD]
  by_cases hb : 1 ≤ b
  · simp only [hb, decide_true, if_true]
    obtain ⟨c, e1, e2⟩ := atI_in (l := z.cps.toList) (i := (b - 1) % z.length) (Int.emod_nonneg _ (by omega)) (by rw [str_len]; exact Int.emod_lt_of_pos _ (by omega))
    refine ⟨h2, by omega, h2, c, e2, ?_⟩
    simpa [takesB, hb, sg, e1] using hk
  · simpa [takesB, hb] using hk
theorem div_lt {b m : Int} {n : Nat} (h0 : 0 ≤ b) (h : b < 2 ^ n) (hm : 1 ≤ m) : 0 ≤ b / m ∧ b / m < 2 ^ n :=
  ⟨Int.ediv_nonneg h0 (by omega), Int.lt_of_le_of_lt (Int.ediv_le_self m h0) h⟩
def timesI (z : Str) (b : Int) : Int := b / z.length * cnt z + cnt (cutS z none (some (b % z.length)))
def sp_times_of : DSp := fun ds M _ k => ds.length = 2 ∧ ∃ z b, ds = [.str z, .int b] ∧ 1 ≤ z.length ∧ z.length ≤ 1000 ∧ 0 ≤ cnt z ∧ cnt z ≤ 1000 ∧ 0 ≤ b ∧ b < 2 ^ 1000 ∧ k (.int (timesI z b)) M
theorem ok_times_of (T : Tx w K mg) : FnG P w K mg base CX0 1 T.f_times_of T.e_times_of ["rhythm", "beat"] (rSp K sp_times_of) := by
  refine fnT T.d_times_of.fn sc_times_of (fun ds M x k h => h.1) (by decide) (fun cdv A outer s H E rm => ?_) (fun ds M x k h => h)
  refine ⟨_, (yss_cons (ys_asg (xe_callB call_divmod l_divmodC (by rfl) T.m_divmod (by decide +kernel) (xa_cons (xv 1) (xa_cons (xe_callB call_lenD' l_lenC (by rfl) T.m_len (by decide +kernel) (xa_cons (xv 0) xa_nil)) xa_nil))) (xg_tup rfl (xgs_cons (xg_name (i := 2) sc_times_of.nd rfl (by first | exact Or.inl rfl | exact Or.inr rfl)) (xgs_cons (xg_name (i := 3) sc_times_of.nd rfl (by first | exact Or.inl rfl | exact Or.inr rfl)) xgs_nil))))
      (yss_one (ys_ret (xe_op op_addD l_addD (xe_op op_mulD l_mulD (xv 2) (xe_bm PySem.F.plainAttrs_str PySem.F.slot_str_count PySem.F.type_str_count mt_count l_countM (by decide) (xv 0) (xa_cons xstr xa_nil))) (xe_bm PySem.F.plainAttrs_str PySem.F.slot_str_count PySem.F.type_str_count mt_count l_countM (by decide) (xe_sliceS (xv 0) xo_none (xo_some (xv 3))) (xa_cons xstr xa_nil)))))), ?_⟩
  intro ds M k h
  obtain ⟨-, z, b, rfl, h1, h2, c1, c2, h3, h4, hk⟩ := h
  rw [show start0 ["rhythm", "beat", "rounds", "rest"] [D.str z, D.int b] = [some (.str z), some (.int b), none, none] from rfl]
  simp only [TV.wSeq, TV.wIf, TV.wOr, TV.wNot, TV.wAnd, TV.wAndV, TV.wOrV, TV.wNotV, TV.wIfE, TV.wTru, TV.wCB, TV.wCons, TV.wVar, TV.wC, TV.wNil, TV.wTest, TV.wChain, TV.wRet, TV.wRetN, TV.wNext, TV.wSet, TV.wDrop, TV.wFrz, TV.wMut, TV.wDisp, TV.wTup, TV.wOp, TV.wCall, TV.wDget, TV.wDput, TV.wFor, TV.wLc, TV.wiL, TV.wiT, TV.wiS, TV.wiR1, TV.wiR2, TV.wiEnumS, TV.wiEnum, TV.wgName, TV.wgTup, TV.wgCons, TV.wgNil, TV.wPar, TV.wPar3, TV.wAsg, TV.wUn, TV.wBM, TV.wApp, TV.wSetI, TV.wListC, TV.wSlL, TV.wSlS, TV.wSlT, TV.wNo, TV.wPart, TV.wYes, TV.wRev, TV.wMelt, TV.wNever, TV.wipe0, TV.wDictM, TV.wDictF, TV.wDict0F, TV.wPairs, List.getElem?_cons_zero, List.getElem?_cons_succ, List.set_cons_zero, List.set_cons_succ, Option.some.injEq, exists_eq_left', exists_eq_left, List.cons.injEq, and_true, true_and, TV.D.str.injEq, TV.D.int.injEq, TV.D.bl.injEq, TV.D.lst.injEq, TV.D.tup.injEq, TV.D.obj.injEq, List.map_cons, List.map_nil, TV.cmpD, TV.subD, TV.intD, TV.inSD, TV.ninSD, TV.isND, TV.notND, TV.isBD, TV.divmodC, TV.absC, isiC', TV.len_str, TV.len_lst, TV.len_tup, TV.tru_bl, TV.tru_int, TV.tru_str, TV.tru_lst, TV.tru_tup, TV.add_int, TV.add_str, TV.add_lst, TV.add_tup, TV.mul_int, TV.mul_str, TV.ix_str, TV.ix_lst, TV.ix_tup, TV.count_str, TV.eq_str, TV.ne_str, TV.eq_int, TV.ne_int, TV.eq_lst, TV.ne_lst, TV.sgx, TV.vw_non, TV.vw_bl, TV.vw_int, TV.vw_str, TV.vw_tup, TV.vw_lst, TV.vw_fro, TV.vw_dct, TV.key_str, TV.key_int, false_or, or_false, List.length_nil, TV.ty_non, TV.ty_bl, TV.ty_int, TV.ty_str, TV.ty_tup, TV.ty_lst, TV.ty_dct, TV.tn_str, TV.tn_int, TV.tn_bool, TV.tn_list, TV.tn_tuple, TV.tn_dict, TV.isT, String.reduceBEq, Bool.and_false, Bool.or_false, Bool.false_and, Bool.and_true, Bool.true_or, Bool.or_true, and_assoc, TV.D.ty.injEq, reduceCtorEq, exists_const, exists_and_left, exists_and_right, if_true, if_false, Bool.not_true, Bool.not_false, Bool.false_eq_true, reduceIte, TV.wExt, TV.wPop, TV.wPopAt, TV.wChg, TV.wAny, TV.wAug, TV.wWhile, TV.kgetD, TV.kinD, TV.wLenSet, TV.wLenO, TV.wEqO, TV.wMakeF, TV.wMeth, TV.wFld, TV.wSetF, TV.sumC, TV.minC, TV.maxC, TV.lcmC, TV.isiO, TV.wLc2, TV.wSlT, TV.wIsiT, List.append_nil, TV.wEither, TV.wGet2, TV.wDict1, TV.wDictZip, TV.sumIC, TV.wiZip, TV.wCallL, TV.mulTD]
  have dl := div_lt (m := z.length) h3 h4 (by omega)
  refine ⟨by omega, ⟨by omega, by omega⟩, rfl, mulW dl.1 dl.2 c1 (Int.lt_of_le_of_lt c2 (by decide +kernel)), by omega, hk⟩
/-! the finitely many rhythms -/
def rhyN : Nat → List (List Nat)
  | 0 => [[]]
  | n + 1 => (rhyN n).flatMap fun l => [120 :: l, 45 :: l]
def rhyL : List (List Nat) := ((List.range 6).flatMap fun n => rhyN (n + 1)).filter fun l => l.contains 120
theorem rhyN_in : ∀ l : List Nat, (∀ c ∈ l, c = 120 ∨ c = 45) → l ∈ rhyN l.length
  | [], _ => by simp [rhyN]
  | c :: l, h => by
    have := rhyN_in l fun b hb => h b (List.mem_cons_of_mem _ hb)
    rw [List.length_cons, rhyN, List.mem_flatMap]
    refine ⟨l, this, ?_⟩
    rcases h c List.mem_cons_self with e | e <;> subst e <;> simp
theorem okRh_in {z : Str} (h : okRh z) : ∃ l ∈ rhyL, z = ofCodes l := by
  obtain ⟨h1, h2, h3, h4⟩ := h
  refine ⟨z.cps.toList, ?_, rfl⟩
  unfold rhyL
  rw [List.mem_filter, List.mem_flatMap]
  rw [← str_len] at h1 h2
  refine ⟨⟨z.cps.toList.length - 1, List.mem_range.mpr (by omega), ?_⟩, by simpa using h4⟩
  have := rhyN_in _ h3
  rwa [show z.cps.toList.length - 1 + 1 = z.cps.toList.length by omega]
theorem factA : ∀ l ∈ rhyL, timesI (ofCodes l) 0 = 0 ∧ 1 ≤ cnt (ofCodes l) ∧ cnt (ofCodes l) ≤ 6 := by decide +kernel
theorem factB : ∀ l ∈ rhyL, ∀ i ∈ List.range 6, i < l.length → timesI (ofCodes l) ((i : Int) + 1) = timesI (ofCodes l) i + (if sg (ofCodes l) (i : Int) = true then 1 else 0) ∧ 0 ≤ cnt (cutS (ofCodes l) none (some (i : Int))) := by decide +kernel
theorem rh_six {z : Str} (h : okRh z) : timesI z 0 = 0 ∧ 1 ≤ cnt z ∧ cnt z ≤ 6 := by
  obtain ⟨l, hl, rfl⟩ := okRh_in h
  exact factA l hl
theorem rh_step {z : Str} (h : okRh z) {i : Nat} (hi : i < z.length) : timesI z ((i : Int) + 1) = timesI z i + (if sg z (i : Int) = true then 1 else 0) ∧ 0 ≤ cnt (cutS z none (some (i : Int))) := by
  have l6 := h.2.1
  obtain ⟨l, hl, rfl⟩ := okRh_in h
  rw [codes_len] at hi l6
  exact factB l hl i (List.mem_range.mpr (by omega)) hi
theorem times_shift (z : Str) (h : 1 ≤ z.length) (q s : Int) : timesI z (q * z.length + s) = q * cnt z + timesI z s := by
  unfold timesI
  rw [Int.add_comm (q * _) s, Int.add_mul_ediv_right _ _ (by omega), Int.add_mul_emod_self_right, Int.add_mul]
  omega
/-- how many times up to a beat -/
def tN (z : Str) (b : Nat) : Nat := ((List.range b).filter fun i : Nat => sg z ((i : Int) % z.length)).length
theorem tN_succ (z : Str) (b : Nat) : tN z (b + 1) = tN z b + if sg z ((b : Int) % z.length) = true then 1 else 0 := by
  unfold tN
  rw [List.range_succ, List.filter_append, List.length_append]
  congr 1
  by_cases h : sg z ((b : Int) % z.length) = true <;> simp [h]
theorem times_eq {z : Str} (h : okRh z) : ∀ b : Nat, timesI z b = tN z b
  | 0 => by rw [show ((0 : Nat) : Int) = 0 from rfl, (rh_six h).1]; rfl
  | b + 1 => by
    have ih := times_eq h b
    have l1 := h.1
    have e : (b : Int) = ((b : Int) / z.length) * z.length + (b : Int) % z.length := by
      have := Int.mul_ediv_add_emod (b : Int) z.length
      rw [Int.mul_comm] at this
      exact this.symm
    have r0 : 0 ≤ (b : Int) % z.length := Int.emod_nonneg _ (by omega)
    have r1 : (b : Int) % z.length < z.length := Int.emod_lt_of_pos _ (by omega)
    obtain ⟨r, hr⟩ : ∃ r : Nat, (b : Int) % z.length = r := ⟨((b : Int) % z.length).toNat, by omega⟩
    have st := (rh_step h (i := r) (by omega)).1
    have s1 := times_shift z l1 ((b : Int) / z.length) ((b : Int) % z.length + 1)
    have s0 := times_shift z l1 ((b : Int) / z.length) ((b : Int) % z.length)
    rw [tN_succ]
    rw [← e] at s0
    rw [show ((b : Int) / z.length) * z.length + ((b : Int) % z.length + 1) = ((b + 1 : Nat) : Int) by omega] at s1
    rw [hr] at s0 s1 ⊢
    rw [s1, st]
    split <;> omega
theorem tN_mono (z : Str) {a b : Nat} (h : a ≤ b) : tN z a ≤ tN z b := by
  obtain ⟨d, rfl⟩ : ∃ d, b = a + d := ⟨b - a, by omega⟩
  clear h
  induction d with
  | zero => exact Nat.le_refl _
  | succ d ih => rw [show a + (d + 1) = (a + d) + 1 by omega, tN_succ]; omega
theorem tN_le (z : Str) (b : Nat) : tN z b ≤ b := by
  unfold tN
  have := List.length_filter_le (fun i : Nat => sg z ((i : Int) % z.length)) (List.range b)
  rwa [List.length_range] at this
theorem times_far {z : Str} (h : okRh z) {b : Int} (hb : 0 ≤ b) : b / 6 ≤ timesI z b := by
  have l1 := h.1
  have l6 := h.2.1
  have r0 : 0 ≤ b % z.length := Int.emod_nonneg _ (by omega)
  have r1 : b % z.length < z.length := Int.emod_lt_of_pos _ (by omega)
  have p := (rh_step h (i := (b % z.length).toNat) (by omega)).2
  rw [Int.toNat_of_nonneg r0] at p
  have c1 := (rh_six h).2.1
  have q0 : 0 ≤ b / z.length := Int.ediv_nonneg hb (by omega)
  have m : b / z.length ≤ b / z.length * cnt z := by
    have := Int.mul_le_mul_of_nonneg_left c1 q0
    rwa [Int.mul_one] at this
  have d : b / 6 ≤ b / z.length := by
    have k := Int.mul_ediv_add_emod b z.length
    have k6 := Int.mul_ediv_add_emod b 6
    have : z.length * (b / z.length) ≤ 6 * (b / z.length) := Int.mul_le_mul_of_nonneg_right (by omega) q0
    omega
  unfold timesI
  omega
end
end K08

set_option Elab.async false
set_option linter.all false
set_option maxRecDepth 100000
set_option maxHeartbeats 2000000
namespace K08
open PySem PySem.Spec PyProof.Rows L2 TV
section
variable {P : Program} {w : World} {K : PySem.W.Frag} {mg : Str → Option Value} {base : Heap}
def okN (i : Int) : Prop := -1000000000000 ≤ i ∧ i ≤ 1000000000000
def sp_is_number : DSp := fun ds M _ k => ds.length = 1 ∧ ∃ i, ds = [.int i] ∧ okN i ∧ k (.bl true) M
theorem ok_is_number (T : Tx w K mg) : FnG P w K mg base CX0 3 T.f_is_number T.e_is_number ["thing"] (rSp K sp_is_number) := by
  refine fnT T.d_is_number.fn sc_is_number (fun ds M x k h => h.1) (by decide) (fun cdv A outer s H E rm => ?_) (fun ds M x k h => h)
  refine ⟨_, (yss_one (ys_ret (xcall (ok_is_whole T) (rm.mono (by decide)) (by rfl) T.d_is_whole.gl T.d_is_whole.fn.kp T.d_is_whole.bi pass0 (xa_cons (xv 0) (xa_cons (xe_neg (xglob (v := .int 1000000000000) (fun _ => .int) (by rfl) T.c_GREATEST ⟨_, rfl⟩)) (xa_cons (xglob (v := .int 1000000000000) (fun _ => .int) (by rfl) T.c_GREATEST ⟨_, rfl⟩) xa_nil)))))), ?_⟩
  intro ds M k h
  obtain ⟨-, i, rfl, hi, hk⟩ := h
  rw [show start0 ["thing"] [D.int i] = [some (.int i)] from rfl]
  simp only [TV.wSeq, TV.wIf, TV.wOr, TV.wNot, TV.wAnd, TV.wAndV, TV.wOrV, TV.wNotV, TV.wIfE, TV.wTru, TV.wCB, TV.wCons, TV.wVar, TV.wC, TV.wNil, TV.wTest, TV.wChain, TV.wRet, TV.wRetN, TV.wNext, TV.wSet, TV.wDrop, TV.wFrz, TV.wMut, TV.wDisp, TV.wTup, TV.wOp, TV.wCall, TV.wDget, TV.wDput, TV.wFor, TV.wLc, TV.wiL, TV.wiT, TV.wiS, TV.wiR1, TV.wiR2, TV.wiEnumS, TV.wiEnum, TV.wgName, TV.wgTup, TV.wgCons, TV.wgNil, TV.wPar, TV.wPar3, TV.wAsg, TV.wUn, TV.wBM, TV.wApp, TV.wSetI, TV.wListC, TV.wSlL, TV.wSlS, TV.wSlT, TV.wNo, TV.wPart, TV.wYes, TV.wRev, TV.wMelt, TV.wNever, TV.wipe0, TV.wDictM, TV.wDictF, TV.wDict0F, TV.wPairs, List.getElem?_cons_zero, List.getElem?_cons_succ, List.set_cons_zero, List.set_cons_succ, Option.some.injEq, exists_eq_left', exists_eq_left, List.cons.injEq, and_true, true_and, TV.D.str.injEq, TV.D.int.injEq, TV.D.bl.injEq, TV.D.lst.injEq, TV.D.tup.injEq, TV.D.obj.injEq, List.map_cons, List.map_nil, TV.cmpD, TV.subD, TV.intD, TV.inSD, TV.ninSD, TV.isND, TV.notND, TV.isBD, TV.divmodC, TV.absC, isiC', TV.len_str, TV.len_lst, TV.len_tup, TV.tru_bl, TV.tru_int, TV.tru_str, TV.tru_lst, TV.tru_tup, TV.add_int, TV.add_str, TV.add_lst, TV.add_tup, TV.mul_int, TV.mul_str, TV.ix_str, TV.ix_lst, TV.ix_tup, TV.count_str, TV.eq_str, TV.ne_str, TV.eq_int, TV.ne_int, TV.eq_lst, TV.ne_lst, TV.sgx, TV.vw_non, TV.vw_bl, TV.vw_int, TV.vw_str, TV.vw_tup, TV.vw_lst, TV.vw_fro, TV.vw_dct, TV.key_str, TV.key_int, false_or, or_false, List.length_nil, TV.ty_non, TV.ty_bl, TV.ty_int, TV.ty_str, TV.ty_tup, TV.ty_lst, TV.ty_dct, TV.tn_str, TV.tn_int, TV.tn_bool, TV.tn_list, TV.tn_tuple, TV.tn_dict, TV.isT, String.reduceBEq, Bool.and_false, Bool.or_false, Bool.false_and, Bool.and_true, Bool.true_or, Bool.or_true, and_assoc, TV.D.ty.injEq, reduceCtorEq, exists_const, exists_and_left, exists_and_right, if_true, if_false, Bool.not_true, Bool.not_false, Bool.false_eq_true, reduceIte, TV.wExt, TV.wPop, TV.wPopAt, TV.wChg, TV.wAny, TV.wAug, TV.wWhile, TV.kgetD, TV.kinD, TV.wLenSet, TV.wLenO, TV.wEqO, TV.wMakeF, TV.wMeth, TV.wFld, TV.wSetF, TV.sumC, TV.minC, TV.maxC, TV.lcmC, TV.isiO, TV.wLc2, TV.wSlT, TV.wIsiT, List.append_nil, TV.wEither, TV.wGet2, TV.wDict1, TV.wDictZip, TV.sumIC, TV.wiZip, TV.wCallL, TV.mulTD]
  refine ⟨rfl, _, _, _, rfl, ?_⟩
  rw [decide_eq_true hi.1, decide_eq_true hi.2]
  exact hk
def rowD (r : List Int) : D := .tup (r.map D.int)
def okRow (r : List Int) : Prop := r.length ≤ 2000 ∧ ∀ i ∈ r, okN i
def sp_are_numbers : DSp := fun ds M _ k => ds.length = 3 ∧ ∃ r, ds = [rowD r, .int 0, .int 2000] ∧ okRow r ∧ k (.bl true) M
theorem ok_are_numbers (T : Tx w K mg) : FnG P w K mg base CX0 4 T.f_are_numbers T.e_are_numbers ["thing", "least", "most"] (rSp K sp_are_numbers) := by
  refine fnT T.d_are_numbers.fn sc_are_numbers (fun ds M x k h => h.1) (by decide) (fun cdv A outer s H E rm => ?_) (fun ds M x k h => h)
  refine ⟨_, (yss_cons (ys_if (PW.pt (xw_or (xt_not (xt_tru (xe_callB call_isi l_isi (by rfl) T.m_isinstance (by decide +kernel) (xa_cons (xv 0) (xa_cons (xbltn (v := .ty "tuple") (fun _ => .ty) (by rfl) T.m_tuple (by decide +kernel) rfl) xa_nil))))) (xw_or1 (xt_not (xt_chain op_le op_le l_cmpD l_cmpD (xv 1) (xe_callB call_lenD' l_lenC (by rfl) T.m_len (by decide +kernel) (xa_cons (xv 0) xa_nil)) (xv 2)))))) (yss_one (ys_ret xbl)) yss_nil)
      (yss_one (ys_ret (xe_callB (cr_all rfl) l_allC (by rfl) T.m_all (by decide +kernel) (xa_cons (xl_frz (xl_lc (own := [("part", 3)]) (g := gName 3) rfl sc_are_numbers.nd (xi_tup (xv 0)) (blkOk_by (N := ["thing", "least", "most", "part"]) (sc := defScope s_are_numbers) (by decide +kernel)) (tg_name (by decide)) (fun _ _ _ _ _ => pg_name (i := 3) sc_are_numbers.nd rfl (by first | exact Or.inl rfl | exact Or.inr rfl)) (fun _ _ _ _ _ => xts_nil) (fun _ _ _ _ _ => (xcall (ok_is_number T) (rm.mono (by decide)) (by rfl) T.d_is_number.gl T.d_is_number.fn.kp T.d_is_number.bi pass0 (xa_cons (xv 3) xa_nil))))) xa_nil))))), ?_⟩
  intro ds M k h
  obtain ⟨-, r, rfl, hr, hk⟩ := h
  rw [show start0 ["thing", "least", "most", "part"] [rowD r, D.int 0, D.int 2000] = [some (rowD r), some (.int 0), some (.int 2000), none] from rfl]
  simp only [TV.wSeq, TV.wIf, TV.wOr, TV.wNot, TV.wAnd, TV.wAndV, TV.wOrV, TV.wNotV, TV.wIfE, TV.wTru, TV.wCB, TV.wCons, TV.wVar, TV.wC, TV.wNil, TV.wTest, TV.wChain, TV.wRet, TV.wRetN, TV.wNext, TV.wSet, TV.wDrop, TV.wFrz, TV.wMut, TV.wDisp, TV.wTup, TV.wOp, TV.wCall, TV.wDget, TV.wDput, TV.wFor, TV.wLc, TV.wiL, TV.wiT, TV.wiS, TV.wiR1, TV.wiR2, TV.wiEnumS, TV.wiEnum, TV.wgName, TV.wgTup, TV.wgCons, TV.wgNil, TV.wPar, TV.wPar3, TV.wAsg, TV.wUn, TV.wBM, TV.wApp, TV.wSetI, TV.wListC, TV.wSlL, TV.wSlS, TV.wSlT, TV.wNo, TV.wPart, TV.wYes, TV.wRev, TV.wMelt, TV.wNever, TV.wipe0, TV.wDictM, TV.wDictF, TV.wDict0F, TV.wPairs, List.getElem?_cons_zero, List.getElem?_cons_succ, List.set_cons_zero, List.set_cons_succ, Option.some.injEq, exists_eq_left', exists_eq_left, List.cons.injEq, and_true, true_and, TV.D.str.injEq, TV.D.int.injEq, TV.D.bl.injEq, TV.D.lst.injEq, TV.D.tup.injEq, TV.D.obj.injEq, List.map_cons, List.map_nil, TV.cmpD, TV.subD, TV.intD, TV.inSD, TV.ninSD, TV.isND, TV.notND, TV.isBD, TV.divmodC, TV.absC, isiC', TV.len_str, TV.len_lst, TV.len_tup, TV.tru_bl, TV.tru_int, TV.tru_str, TV.tru_lst, TV.tru_tup, TV.add_int, TV.add_str, TV.add_lst, TV.add_tup, TV.mul_int, TV.mul_str, TV.ix_str, TV.ix_lst, TV.ix_tup, TV.count_str, TV.eq_str, TV.ne_str, TV.eq_int, TV.ne_int, TV.eq_lst, TV.ne_lst, TV.sgx, TV.vw_non, TV.vw_bl, TV.vw_int, TV.vw_str, TV.vw_tup, TV.vw_lst, TV.vw_fro, TV.vw_dct, TV.key_str, TV.key_int, false_or, or_false, List.length_nil, TV.ty_non, TV.ty_bl, TV.ty_int, TV.ty_str, TV.ty_tup, TV.ty_lst, TV.ty_dct, TV.tn_str, TV.tn_int, TV.tn_bool, TV.tn_list, TV.tn_tuple, TV.tn_dict, TV.isT, String.reduceBEq, Bool.and_false, Bool.or_false, Bool.false_and, Bool.and_true, Bool.true_or, Bool.or_true, and_assoc, TV.D.ty.injEq, reduceCtorEq, exists_const, exists_and_left, exists_and_right, if_true, if_false, Bool.not_true, Bool.not_false, Bool.false_eq_true, reduceIte, TV.wExt, TV.wPop, TV.wPopAt, TV.wChg, TV.wAny, TV.wAug, TV.wWhile, TV.kgetD, TV.kinD, TV.wLenSet, TV.wLenO, TV.wEqO, TV.wMakeF, TV.wMeth, TV.wFld, TV.wSetF, TV.sumC, TV.minC, TV.maxC, TV.lcmC, TV.isiO, TV.wLc2, TV.wSlT, TV.wIsiT, List.append_nil, TV.wEither, TV.wGet2, TV.wDict1, TV.wDictZip, TV.sumIC, TV.wiZip, TV.wCallL, TV.mulTD]
  refine ⟨"tuple", rfl, ?_⟩
  rw [if_neg (by decide)]
  have l := hr.1
  refine len_tup.mpr ⟨_, rfl, ?_⟩
  rw [List.length_map, if_pos (decide_eq_true (by omega))]
  refine ⟨_, rfl, ?_⟩
  rw [if_neg (by rw [decide_eq_true (by omega)]; decide)]
  refine ⟨_, rfl, by rw [List.length_map]; omega, fun i acc M' => M' = M ∧ acc = List.replicate i (D.bl true), ⟨rfl, rfl⟩, ?_, ?_⟩
  · rintro i d acc M' he ⟨rfl, rfl⟩
    obtain ⟨x, hx, rfl⟩ := map_get he
    exact ⟨rfl, x, rfl, hr.2 x (List.mem_of_getElem? hx), rfl, by rw [List.replicate_succ']⟩
  · rintro acc M' ⟨rfl, rfl⟩
    rw [List.length_map]
    refine ⟨_, List.replicate r.length true, rfl, by show D.lst _ = _; rw [List.map_replicate], ?_⟩
    dsimp only
    rw [show (List.replicate r.length true).all id = true by simp]
    exact hk
def sp__is_row : DSp := fun ds M _ k => ds.length = 1 ∧ ∃ r, ds = [rowD r] ∧ okRow r ∧ k (.bl true) M
theorem ok__is_row (T : Tx w K mg) : FnG P w K mg base CX0 5 T.f__is_row T.e__is_row ["thing"] (rSp K sp__is_row) := by
  refine fnT T.d__is_row.fn sc__is_row (fun ds M x k h => h.1) (by decide) (fun cdv A outer s H E rm => ?_) (fun ds M x k h => h)
  refine ⟨_, (yss_one (ys_ret (xcall (ok_are_numbers T) (rm.mono (by decide)) (by rfl) T.d_are_numbers.gl T.d_are_numbers.fn.kp T.d_are_numbers.bi pass0 (xa_cons (xv 0) (xa_cons xint (xa_cons (xglob (v := .int 2000) (fun _ => .int) (by rfl) T.c_LONGEST_ROW ⟨_, rfl⟩) xa_nil)))))), ?_⟩
  intro ds M k h
  obtain ⟨-, r, rfl, hr, hk⟩ := h
  rw [show start0 ["thing"] [rowD r] = [some (rowD r)] from rfl]
  simp only [TV.wSeq, TV.wIf, TV.wOr, TV.wNot, TV.wAnd, TV.wAndV, TV.wOrV, TV.wNotV, TV.wIfE, TV.wTru, TV.wCB, TV.wCons, TV.wVar, TV.wC, TV.wNil, TV.wTest, TV.wChain, TV.wRet, TV.wRetN, TV.wNext, TV.wSet, TV.wDrop, TV.wFrz, TV.wMut, TV.wDisp, TV.wTup, TV.wOp, TV.wCall, TV.wDget, TV.wDput, TV.wFor, TV.wLc, TV.wiL, TV.wiT, TV.wiS, TV.wiR1, TV.wiR2, TV.wiEnumS, TV.wiEnum, TV.wgName, TV.wgTup, TV.wgCons, TV.wgNil, TV.wPar, TV.wPar3, TV.wAsg, TV.wUn, TV.wBM, TV.wApp, TV.wSetI, TV.wListC, TV.wSlL, TV.wSlS, TV.wSlT, TV.wNo, TV.wPart, TV.wYes, TV.wRev, TV.wMelt, TV.wNever, TV.wipe0, TV.wDictM, TV.wDictF, TV.wDict0F, TV.wPairs, List.getElem?_cons_zero, List.getElem?_cons_succ, List.set_cons_zero, List.set_cons_succ, Option.some.injEq, exists_eq_left', exists_eq_left, List.cons.injEq, and_true, true_and, TV.D.str.injEq, TV.D.int.injEq, TV.D.bl.injEq, TV.D.lst.injEq, TV.D.tup.injEq, TV.D.obj.injEq, List.map_cons, List.map_nil, TV.cmpD, TV.subD, TV.intD, TV.inSD, TV.ninSD, TV.isND, TV.notND, TV.isBD, TV.divmodC, TV.absC, isiC', TV.len_str, TV.len_lst, TV.len_tup, TV.tru_bl, TV.tru_int, TV.tru_str, TV.tru_lst, TV.tru_tup, TV.add_int, TV.add_str, TV.add_lst, TV.add_tup, TV.mul_int, TV.mul_str, TV.ix_str, TV.ix_lst, TV.ix_tup, TV.count_str, TV.eq_str, TV.ne_str, TV.eq_int, TV.ne_int, TV.eq_lst, TV.ne_lst, TV.sgx, TV.vw_non, TV.vw_bl, TV.vw_int, TV.vw_str, TV.vw_tup, TV.vw_lst, TV.vw_fro, TV.vw_dct, TV.key_str, TV.key_int, false_or, or_false, List.length_nil, TV.ty_non, TV.ty_bl, TV.ty_int, TV.ty_str, TV.ty_tup, TV.ty_lst, TV.ty_dct, TV.tn_str, TV.tn_int, TV.tn_bool, TV.tn_list, TV.tn_tuple, TV.tn_dict, TV.isT, String.reduceBEq, Bool.and_false, Bool.or_false, Bool.false_and, Bool.and_true, Bool.true_or, Bool.or_true, and_assoc, TV.D.ty.injEq, reduceCtorEq, exists_const, exists_and_left, exists_and_right, if_true, if_false, Bool.not_true, Bool.not_false, Bool.false_eq_true, reduceIte, TV.wExt, TV.wPop, TV.wPopAt, TV.wChg, TV.wAny, TV.wAug, TV.wWhile, TV.kgetD, TV.kinD, TV.wLenSet, TV.wLenO, TV.wEqO, TV.wMakeF, TV.wMeth, TV.wFld, TV.wSetF, TV.sumC, TV.minC, TV.maxC, TV.lcmC, TV.isiO, TV.wLc2, TV.wSlT, TV.wIsiT, List.append_nil, TV.wEither, TV.wGet2, TV.wDict1, TV.wDictZip, TV.sumIC, TV.wiZip, TV.wCallL, TV.mulTD]
  exact ⟨rfl, r, rfl, hr, hk⟩
def sp_first_wrong (f : Addr) : DSp := fun ds M _ k => ds.length = 4 ∧ ∃ (d : D) (fd : List (List Int)), ds = [d, .int fd.length, .int fd.length, .obj f] ∧ seqOf M d (fd.map rowD) ∧ fd.length ≤ 3 ∧ (∀ r ∈ fd, okRow r) ∧ k .non M
theorem ok_first_wrong (T : Tx w K mg) : FnG P w K mg base CX0 7 T.f_first_wrong T.e_first_wrong ["thing", "least", "most", "is_part"] (rSp K (sp_first_wrong T.f__is_row)) := by
  refine fnT T.d_first_wrong.fn sc_first_wrong (fun ds M x k h => h.1) (by decide) (fun cdv A outer s H E rm => ?_) (fun ds M x k h => h)
  refine ⟨_, (yss_cons (ys_if (xt_not (xt_tru (xcall (ok_are_many T) (rm.mono (by decide)) (by rfl) T.d_are_many.gl T.d_are_many.fn.kp T.d_are_many.bi pass0 (xa_cons (xv 0) (xa_cons (xv 1) (xa_cons (xv 2) xa_nil)))))) (yss_one (ys_ret (xe_neg xint))) yss_nil)
      (yss_cons (ys_for PassesOwn.never rfl (xi_enumB (by rfl) T.m_enumerate (xa_cons (xv 0) xa_nil)) (xg_tup rfl (xgs_cons (xg_name (i := 4) sc_first_wrong.nd rfl (by first | exact Or.inl rfl | exact Or.inr rfl)) (xgs_cons (xg_name (i := 5) sc_first_wrong.nd rfl (by first | exact Or.inl rfl | exact Or.inr rfl)) xgs_nil))) (yss_one (ys_if (xt_not (xt_tru (xcallL (i := 3) (ok__is_row T) (rm.mono (by decide)) T.d__is_row.fn.kp T.d__is_row.bi pass0 (xa_cons (xv 5) xa_nil)))) (yss_one (ys_ret (xv 4))) yss_nil)))
      (yss_one (ys_ret xnon)))), ?_⟩
  intro ds M k h
  obtain ⟨-, d, fd, rfl, hd, few, hr, hk⟩ := h
  rw [show start0 ["thing", "least", "most", "is_part", "at", "part"] [d, D.int fd.length, D.int fd.length, D.obj T.f__is_row] = [some d, some (.int fd.length), some (.int fd.length), some (.obj T.f__is_row), none, none] from rfl]
  simp only [TV.wSeq, TV.wIf, TV.wOr, TV.wNot, TV.wAnd, TV.wAndV, TV.wOrV, TV.wNotV, TV.wIfE, TV.wTru, TV.wCB, TV.wCons, TV.wVar, TV.wC, TV.wNil, TV.wTest, TV.wChain, TV.wRet, TV.wRetN, TV.wNext, TV.wSet, TV.wDrop, TV.wFrz, TV.wMut, TV.wDisp, TV.wTup, TV.wOp, TV.wCall, TV.wDget, TV.wDput, TV.wFor, TV.wLc, TV.wiL, TV.wiT, TV.wiS, TV.wiR1, TV.wiR2, TV.wiEnumS, TV.wiEnum, TV.wgName, TV.wgTup, TV.wgCons, TV.wgNil, TV.wPar, TV.wPar3, TV.wAsg, TV.wUn, TV.wBM, TV.wApp, TV.wSetI, TV.wListC, TV.wSlL, TV.wSlS, TV.wSlT, TV.wNo, TV.wPart, TV.wYes, TV.wRev, TV.wMelt, TV.wNever, TV.wipe0, TV.wDictM, TV.wDictF, TV.wDict0F, TV.wPairs, List.getElem?_cons_zero, List.getElem?_cons_succ, List.set_cons_zero, List.set_cons_succ, Option.some.injEq, exists_eq_left', exists_eq_left, List.cons.injEq, and_true, true_and, TV.D.str.injEq, TV.D.int.injEq, TV.D.bl.injEq, TV.D.lst.injEq, TV.D.tup.injEq, TV.D.obj.injEq, List.map_cons, List.map_nil, TV.cmpD, TV.subD, TV.intD, TV.inSD, TV.ninSD, TV.isND, TV.notND, TV.isBD, TV.divmodC, TV.absC, isiC', TV.len_str, TV.len_lst, TV.len_tup, TV.tru_bl, TV.tru_int, TV.tru_str, TV.tru_lst, TV.tru_tup, TV.add_int, TV.add_str, TV.add_lst, TV.add_tup, TV.mul_int, TV.mul_str, TV.ix_str, TV.ix_lst, TV.ix_tup, TV.count_str, TV.eq_str, TV.ne_str, TV.eq_int, TV.ne_int, TV.eq_lst, TV.ne_lst, TV.sgx, TV.vw_non, TV.vw_bl, TV.vw_int, TV.vw_str, TV.vw_tup, TV.vw_lst, TV.vw_fro, TV.vw_dct, TV.key_str, TV.key_int, false_or, or_false, List.length_nil, TV.ty_non, TV.ty_bl, TV.ty_int, TV.ty_str, TV.ty_tup, TV.ty_lst, TV.ty_dct, TV.tn_str, TV.tn_int, TV.tn_bool, TV.tn_list, TV.tn_tuple, TV.tn_dict, TV.isT, String.reduceBEq, Bool.and_false, Bool.or_false, Bool.false_and, Bool.and_true, Bool.true_or, Bool.or_true, and_assoc, TV.D.ty.injEq, reduceCtorEq, exists_const, exists_and_left, exists_and_right, if_true, if_false, Bool.not_true, Bool.not_false, Bool.false_eq_true, reduceIte, TV.wExt, TV.wPop, TV.wPopAt, TV.wChg, TV.wAny, TV.wAug, TV.wWhile, TV.kgetD, TV.kinD, TV.wLenSet, TV.wLenO, TV.wEqO, TV.wMakeF, TV.wMeth, TV.wFld, TV.wSetF, TV.sumC, TV.minC, TV.maxC, TV.lcmC, TV.isiO, TV.wLc2, TV.wSlT, TV.wIsiT, List.append_nil, TV.wEither, TV.wGet2, TV.wDict1, TV.wDictZip, TV.sumIC, TV.wiZip, TV.wCallL, TV.mulTD]
  refine ⟨rfl, d, _, _, _, rfl, hd, ?_⟩
  rw [List.length_map, decide_eq_true (by omega)]
  dsimp only
  rw [Bool.and_true, tru_bl, if_neg (by decide)]
  refine in_enumB rfl hd fun stay hs => ⟨fun i ρ' M' => ∃ dk dt, ρ' = [some d, some (.int fd.length), some (.int fd.length), some (.obj T.f__is_row), dk, dt] ∧ M' = M, ⟨none, none, rfl, rfl⟩, ?_, ?_⟩
  · rintro i e ρ' M' he ⟨dk, dt, rfl, rfl⟩
    obtain ⟨e', h1, rfl⟩ := pairs_get he
    obtain ⟨r, h2, rfl⟩ := map_get h1
    refine ⟨hs _ hd, _, rfl, rfl, _, _, rfl, _, _, rfl, rfl, rfl, _, rfl, rfl, r, rfl, hr r (List.mem_of_getElem? h2), ?_⟩
    dsimp only
    rw [tru_bl, if_neg (by decide)]
    exact ⟨_, _, rfl, rfl⟩
  · rintro ρ' M' ⟨dk, dt, rfl, rfl⟩
    exact ⟨hs _ hd, hk⟩
def sp__wrong_row (C : Addr) : DSp := fun ds M _ k => ds.length = 2 ∧ ∃ (dw d : D) (ins : List (Str × Str)) (gs : List Gt) (fd : List (List Int)), ds = [dw, d] ∧ view M dw = .ins C (webOf ins gs) ∧ seqOf M d (fd.map rowD) ∧ fd.length = ins.length ∧ fd.length ≤ 3 ∧ (∀ r ∈ fd, okRow r) ∧ k .non M
theorem ok__wrong_row (T : Tx w K mg) : FnG P w K mg base CX0 8 T.f__wrong_row T.e__wrong_row ["web", "thing"] (rSp K (sp__wrong_row T.C_Web)) := by
  refine fnT T.d__wrong_row.fn sc__wrong_row (fun ds M x k h => h.1) (by decide) (fun cdv A outer s H E rm => ?_) (fun ds M x k h => h)
  refine ⟨_, (yss_cons (ys_set (i := 2) sc__wrong_row.nd rfl (by first | exact Or.inl rfl | exact Or.inr rfl) (xe_callB call_lenD' l_lenC (by rfl) T.m_len (by decide +kernel) (xa_cons (xmeth0 (xv 0) T.c_Web T.d_Web_inlets.mt (ok_Web_inlets T) (rm.mono (by decide)) T.d_Web_inlets.bi pass0) xa_nil)))
      (yss_one (ys_ret (xcall (ok_first_wrong T) (rm.mono (by decide)) (by rfl) T.d_first_wrong.gl T.d_first_wrong.fn.kp T.d_first_wrong.bi pass0 (xa_cons (xv 1) (xa_cons (xv 2) (xa_cons (xv 2) (xa_cons (xglob (v := .ref T.f__is_row) (fun _ => .obj) (by rfl) T.d__is_row.gl rfl) xa_nil)))))))), ?_⟩
  intro ds M k h
  obtain ⟨-, dw, d, ins, gs, fd, rfl, hw, hd, le, few, hr, hk⟩ := h
  rw [show start0 ["web", "thing", "many"] [dw, d] = [some dw, some d, none] from rfl]
  simp only [TV.wSeq, TV.wIf, TV.wOr, TV.wNot, TV.wAnd, TV.wAndV, TV.wOrV, TV.wNotV, TV.wIfE, TV.wTru, TV.wCB, TV.wCons, TV.wVar, TV.wC, TV.wNil, TV.wTest, TV.wChain, TV.wRet, TV.wRetN, TV.wNext, TV.wSet, TV.wDrop, TV.wFrz, TV.wMut, TV.wDisp, TV.wTup, TV.wOp, TV.wCall, TV.wDget, TV.wDput, TV.wFor, TV.wLc, TV.wiL, TV.wiT, TV.wiS, TV.wiR1, TV.wiR2, TV.wiEnumS, TV.wiEnum, TV.wgName, TV.wgTup, TV.wgCons, TV.wgNil, TV.wPar, TV.wPar3, TV.wAsg, TV.wUn, TV.wBM, TV.wApp, TV.wSetI, TV.wListC, TV.wSlL, TV.wSlS, TV.wSlT, TV.wNo, TV.wPart, TV.wYes, TV.wRev, TV.wMelt, TV.wNever, TV.wipe0, TV.wDictM, TV.wDictF, TV.wDict0F, TV.wPairs, List.getElem?_cons_zero, List.getElem?_cons_succ, List.set_cons_zero, List.set_cons_succ, Option.some.injEq, exists_eq_left', exists_eq_left, List.cons.injEq, and_true, true_and, TV.D.str.injEq, TV.D.int.injEq, TV.D.bl.injEq, TV.D.lst.injEq, TV.D.tup.injEq, TV.D.obj.injEq, List.map_cons, List.map_nil, TV.cmpD, TV.subD, TV.intD, TV.inSD, TV.ninSD, TV.isND, TV.notND, TV.isBD, TV.divmodC, TV.absC, isiC', TV.len_str, TV.len_lst, TV.len_tup, TV.tru_bl, TV.tru_int, TV.tru_str, TV.tru_lst, TV.tru_tup, TV.add_int, TV.add_str, TV.add_lst, TV.add_tup, TV.mul_int, TV.mul_str, TV.ix_str, TV.ix_lst, TV.ix_tup, TV.count_str, TV.eq_str, TV.ne_str, TV.eq_int, TV.ne_int, TV.eq_lst, TV.ne_lst, TV.sgx, TV.vw_non, TV.vw_bl, TV.vw_int, TV.vw_str, TV.vw_tup, TV.vw_lst, TV.vw_fro, TV.vw_dct, TV.key_str, TV.key_int, false_or, or_false, List.length_nil, TV.ty_non, TV.ty_bl, TV.ty_int, TV.ty_str, TV.ty_tup, TV.ty_lst, TV.ty_dct, TV.tn_str, TV.tn_int, TV.tn_bool, TV.tn_list, TV.tn_tuple, TV.tn_dict, TV.isT, String.reduceBEq, Bool.and_false, Bool.or_false, Bool.false_and, Bool.and_true, Bool.true_or, Bool.or_true, and_assoc, TV.D.ty.injEq, reduceCtorEq, exists_const, exists_and_left, exists_and_right, if_true, if_false, Bool.not_true, Bool.not_false, Bool.false_eq_true, reduceIte, TV.wExt, TV.wPop, TV.wPopAt, TV.wChg, TV.wAny, TV.wAug, TV.wWhile, TV.kgetD, TV.kinD, TV.wLenSet, TV.wLenO, TV.wEqO, TV.wMakeF, TV.wMeth, TV.wFld, TV.wSetF, TV.sumC, TV.minC, TV.maxC, TV.lcmC, TV.isiO, TV.wLc2, TV.wSlT, TV.wIsiT, List.append_nil, TV.wEither, TV.wGet2, TV.wDict1, TV.wDictZip, TV.sumIC, TV.wiZip, TV.wCallL, TV.mulTD]
  refine ⟨_, hw, no_fld (by decide +kernel) (by decide +kernel), rfl, dw, ins, gs, rfl, hw, .inl ?_⟩
  refine len_lst.mpr ⟨rfl, d, fd, ?_, hd, few, hr, hk⟩
  rw [List.length_map, le]
def sp_check_feed (C : Addr) : DSp := fun ds M _ k => ds.length = 2 ∧ ∃ (dw d : D) (ins : List (Str × Str)) (gs : List Gt) (fd : List (List Int)), ds = [dw, d] ∧ view M dw = .ins C (webOf ins gs) ∧ seqOf M d (fd.map rowD) ∧ fd.length = ins.length ∧ fd.length ≤ 3 ∧ (∀ r ∈ fd, okRow r) ∧ k .non M
theorem ok_check_feed (T : Tx w K mg) : FnG P w K mg base CX0 9 T.f_check_feed T.e_check_feed ["web", "thing"] (rSp K (sp_check_feed T.C_Web)) := by
  refine fnT T.d_check_feed.fn sc_check_feed (fun ds M x k h => h.1) (by decide) (fun cdv A outer s H E rm => ?_) (fun ds M x k h => h)
  refine ⟨_, (yss_cons (ys_set (i := 2) sc_check_feed.nd rfl (by first | exact Or.inl rfl | exact Or.inr rfl) (xcall (ok__wrong_row T) (rm.mono (by decide)) (by rfl) T.d__wrong_row.gl T.d__wrong_row.fn.kp T.d__wrong_row.bi pass0 (xa_cons (xv 0) (xa_cons (xv 1) xa_nil))))
      (yss_one (ys_if (xt_cmp op_notN l_notND (xv 2) xnon (nomark _)) (yss_one ys_never) yss_nil))), ?_⟩
  intro ds M k h
  obtain ⟨-, dw, d, ins, gs, fd, rfl, hw, hd, le, few, hr, hk⟩ := h
  rw [show start0 ["web", "thing", "inlet"] [dw, d] = [some dw, some d, none] from rfl]
  simp only [TV.wSeq, TV.wIf, TV.wOr, TV.wNot, TV.wAnd, TV.wAndV, TV.wOrV, TV.wNotV, TV.wIfE, TV.wTru, TV.wCB, TV.wCons, TV.wVar, TV.wC, TV.wNil, TV.wTest, TV.wChain, TV.wRet, TV.wRetN, TV.wNext, TV.wSet, TV.wDrop, TV.wFrz, TV.wMut, TV.wDisp, TV.wTup, TV.wOp, TV.wCall, TV.wDget, TV.wDput, TV.wFor, TV.wLc, TV.wiL, TV.wiT, TV.wiS, TV.wiR1, TV.wiR2, TV.wiEnumS, TV.wiEnum, TV.wgName, TV.wgTup, TV.wgCons, TV.wgNil, TV.wPar, TV.wPar3, TV.wAsg, TV.wUn, TV.wBM, TV.wApp, TV.wSetI, TV.wListC, TV.wSlL, TV.wSlS, TV.wSlT, TV.wNo, TV.wPart, TV.wYes, TV.wRev, TV.wMelt, TV.wNever, TV.wipe0, TV.wDictM, TV.wDictF, TV.wDict0F, TV.wPairs, List.getElem?_cons_zero, List.getElem?_cons_succ, List.set_cons_zero, List.set_cons_succ, Option.some.injEq, exists_eq_left', exists_eq_left, List.cons.injEq, and_true, true_and, TV.D.str.injEq, TV.D.int.injEq, TV.D.bl.injEq, TV.D.lst.injEq, TV.D.tup.injEq, TV.D.obj.injEq, List.map_cons, List.map_nil, TV.cmpD, TV.subD, TV.intD, TV.inSD, TV.ninSD, TV.isND, TV.notND, TV.isBD, TV.divmodC, TV.absC, isiC', TV.len_str, TV.len_lst, TV.len_tup, TV.tru_bl, TV.tru_int, TV.tru_str, TV.tru_lst, TV.tru_tup, TV.add_int, TV.add_str, TV.add_lst, TV.add_tup, TV.mul_int, TV.mul_str, TV.ix_str, TV.ix_lst, TV.ix_tup, TV.count_str, TV.eq_str, TV.ne_str, TV.eq_int, TV.ne_int, TV.eq_lst, TV.ne_lst, TV.sgx, TV.vw_non, TV.vw_bl, TV.vw_int, TV.vw_str, TV.vw_tup, TV.vw_lst, TV.vw_fro, TV.vw_dct, TV.key_str, TV.key_int, false_or, or_false, List.length_nil, TV.ty_non, TV.ty_bl, TV.ty_int, TV.ty_str, TV.ty_tup, TV.ty_lst, TV.ty_dct, TV.tn_str, TV.tn_int, TV.tn_bool, TV.tn_list, TV.tn_tuple, TV.tn_dict, TV.isT, String.reduceBEq, Bool.and_false, Bool.or_false, Bool.false_and, Bool.and_true, Bool.true_or, Bool.or_true, and_assoc, TV.D.ty.injEq, reduceCtorEq, exists_const, exists_and_left, exists_and_right, if_true, if_false, Bool.not_true, Bool.not_false, Bool.false_eq_true, reduceIte, TV.wExt, TV.wPop, TV.wPopAt, TV.wChg, TV.wAny, TV.wAug, TV.wWhile, TV.kgetD, TV.kinD, TV.wLenSet, TV.wLenO, TV.wEqO, TV.wMakeF, TV.wMeth, TV.wFld, TV.wSetF, TV.sumC, TV.minC, TV.maxC, TV.lcmC, TV.isiO, TV.wLc2, TV.wSlT, TV.wIsiT, List.append_nil, TV.wEither, TV.wGet2, TV.wDict1, TV.wDictZip, TV.sumIC, TV.wiZip, TV.wCallL, TV.mulTD]
  exact ⟨rfl, dw, d, ins, gs, fd, rfl, hw, hd, le, few, hr, hk⟩
def sp_times_by (C : Addr) : DSp := fun ds M _ k => ds.length = 2 ∧ ∃ (dw : D) (ins : List (Str × Str)) (gs : List Gt) (b : Int), ds = [dw, .int b] ∧ view M dw = .ins C (webOf ins gs) ∧ (∀ p ∈ ins, okRh p.2) ∧ ins.length ≤ 3 ∧ 0 ≤ b ∧ b < 2 ^ 1000 ∧ k (.lst (ins.map fun p => D.int (timesI p.2 b))) M
theorem ok_times_by (T : Tx w K mg) : FnG P w K mg base CX0 2 T.f_times_by T.e_times_by ["web", "beat"] (rSp K (sp_times_by T.C_Web)) := by
  refine fnT T.d_times_by.fn sc_times_by (fun ds M x k h => h.1) (by decide) (fun cdv A outer s H E rm => ?_) (fun ds M x k h => h)
  refine ⟨_, (yss_one (ys_ret (xl_frz (xl_lc (own := [("_", 2), ("rhythm", 3)]) (g := gTup K 2 (gCons (gName 2) (gCons (gName 3) (gNil)))) rfl sc_times_by.nd (xi_list (xmeth0 (xv 0) T.c_Web T.d_Web_inlets.mt (ok_Web_inlets T) (rm.mono (by decide)) T.d_Web_inlets.bi pass0)) (blkOk_by (N := ["web", "beat", "_", "rhythm"]) (sc := defScope s_times_by) (by decide +kernel)) (tg_tup2 (by decide) (by decide)) (fun _ _ _ _ _ => pg_tup rfl (pgs_cons (pg_name (i := 2) sc_times_by.nd rfl (by first | exact Or.inl rfl | exact Or.inr rfl)) (pgs_cons (pg_name (i := 3) sc_times_by.nd rfl (by first | exact Or.inl rfl | exact Or.inr rfl)) pgs_nil))) (fun _ _ _ _ _ => xts_nil) (fun _ _ _ _ _ => (xcall (ok_times_of T) (rm.mono (by decide)) (by rfl) T.d_times_of.gl T.d_times_of.fn.kp T.d_times_of.bi pass0 (xa_cons (xv 3) (xa_cons (xv 1) xa_nil)))))))), ?_⟩
  intro ds M k h
  obtain ⟨-, dw, ins, gs, b, rfl, hw, rh, few, b0, b1, hk⟩ := h
  rw [show start0 ["web", "beat", "_", "rhythm"] [dw, D.int b] = [some dw, some (.int b), none, none] from rfl]
  simp only [TV.wSeq, TV.wIf, TV.wOr, TV.wNot, TV.wAnd, TV.wAndV, TV.wOrV, TV.wNotV, TV.wIfE, TV.wTru, TV.wCB, TV.wCons, TV.wVar, TV.wC, TV.wNil, TV.wTest, TV.wChain, TV.wRet, TV.wRetN, TV.wNext, TV.wSet, TV.wDrop, TV.wFrz, TV.wMut, TV.wDisp, TV.wTup, TV.wOp, TV.wCall, TV.wDget, TV.wDput, TV.wFor, TV.wLc, TV.wiL, TV.wiT, TV.wiS, TV.wiR1, TV.wiR2, TV.wiEnumS, TV.wiEnum, TV.wgName, TV.wgTup, TV.wgCons, TV.wgNil, TV.wPar, TV.wPar3, TV.wAsg, TV.wUn, TV.wBM, TV.wApp, TV.wSetI, TV.wListC, TV.wSlL, TV.wSlS, TV.wSlT, TV.wNo, TV.wPart, TV.wYes, TV.wRev, TV.wMelt, TV.wNever, TV.wipe0, TV.wDictM, TV.wDictF, TV.wDict0F, TV.wPairs, List.getElem?_cons_zero, List.getElem?_cons_succ, List.set_cons_zero, List.set_cons_succ, Option.some.injEq, exists_eq_left', exists_eq_left, List.cons.injEq, and_true, true_and, TV.D.str.injEq, TV.D.int.injEq, TV.D.bl.injEq, TV.D.lst.injEq, TV.D.tup.injEq, TV.D.obj.injEq, List.map_cons, List.map_nil, TV.cmpD, TV.subD, TV.intD, TV.inSD, TV.ninSD, TV.isND, TV.notND, TV.isBD, TV.divmodC, TV.absC, isiC', TV.len_str, TV.len_lst, TV.len_tup, TV.tru_bl, TV.tru_int, TV.tru_str, TV.tru_lst, TV.tru_tup, TV.add_int, TV.add_str, TV.add_lst, TV.add_tup, TV.mul_int, TV.mul_str, TV.ix_str, TV.ix_lst, TV.ix_tup, TV.count_str, TV.eq_str, TV.ne_str, TV.eq_int, TV.ne_int, TV.eq_lst, TV.ne_lst, TV.sgx, TV.vw_non, TV.vw_bl, TV.vw_int, TV.vw_str, TV.vw_tup, TV.vw_lst, TV.vw_fro, TV.vw_dct, TV.key_str, TV.key_int, false_or, or_false, List.length_nil, TV.ty_non, TV.ty_bl, TV.ty_int, TV.ty_str, TV.ty_tup, TV.ty_lst, TV.ty_dct, TV.tn_str, TV.tn_int, TV.tn_bool, TV.tn_list, TV.tn_tuple, TV.tn_dict, TV.isT, String.reduceBEq, Bool.and_false, Bool.or_false, Bool.false_and, Bool.and_true, Bool.true_or, Bool.or_true, and_assoc, TV.D.ty.injEq, reduceCtorEq, exists_const, exists_and_left, exists_and_right, if_true, if_false, Bool.not_true, Bool.not_false, Bool.false_eq_true, reduceIte, TV.wExt, TV.wPop, TV.wPopAt, TV.wChg, TV.wAny, TV.wAug, TV.wWhile, TV.kgetD, TV.kinD, TV.wLenSet, TV.wLenO, TV.wEqO, TV.wMakeF, TV.wMeth, TV.wFld, TV.wSetF, TV.sumC, TV.minC, TV.maxC, TV.lcmC, TV.isiO, TV.wLc2, TV.wSlT, TV.wIsiT, List.append_nil, TV.wEither, TV.wGet2, TV.wDict1, TV.wDictZip, TV.sumIC, TV.wiZip, TV.wCallL, TV.mulTD]
  refine ⟨_, hw, no_fld (by decide +kernel) (by decide +kernel), rfl, dw, ins, gs, rfl, hw, .inl ⟨_, rfl, by rw [List.length_map]; omega, fun i acc M' => M' = M ∧ acc = (ins.take i).map fun p => D.int (timesI p.2 b), ⟨rfl, rfl⟩, ?_, ?_⟩⟩
  · rintro i e acc M' he ⟨rfl, rfl⟩
    obtain ⟨q, h2, rfl⟩ := map_get he
    have r := rh q (List.mem_of_getElem? h2)
    have r6 := rh_six r
    refine ⟨rfl, _, rfl, rfl, _, _, rfl, _, _, rfl, rfl, rfl, q.2, b, rfl, r.1, by have := r.2.1; omega, by omega, by omega, b0, b1, rfl, ?_⟩
    rw [List.take_add_one, h2]
    simp
  · rintro acc M' ⟨rfl, rfl⟩
    rw [show List.take (ins.map ilD).length ins = ins by rw [List.length_map, List.take_length]]
    exact ⟨rfl, hk⟩
end
end K08

set_option Elab.async false
set_option linter.all false
set_option maxRecDepth 100000
set_option maxHeartbeats 2000000
namespace K08
open PySem PySem.Spec PyProof.Rows L2 TV
section
variable {P : Program} {w : World} {K : PySem.W.Frag} {mg : Str → Option Value} {base : Heap}
def takL (ins : List (Str × Str)) (b : Int) (n : Nat) : List Nat := (List.range n).filter fun i => match ins[i]? with | some p => takesB p.2 b | none => false
theorem takL_succ {ins : List (Str × Str)} {b : Int} {n : Nat} {p : Str × Str} (h : ins[n]? = some p) : takL ins b (n + 1) = takL ins b n ++ if takesB p.2 b = true then [n] else [] := by
  unfold takL
  rw [List.range_succ, List.filter_append]
  congr 1
  by_cases e : takesB p.2 b = true <;> simp [h, e]
def sp_takers (C : Addr) : DSp := fun ds M _ k => ds.length = 2 ∧ ∃ (dw : D) (ins : List (Str × Str)) (gs : List Gt) (b : Int), ds = [dw, .int b] ∧ view M dw = .ins C (webOf ins gs) ∧ (∀ p ∈ ins, okRh p.2) ∧ ins.length ≤ 3 ∧ k (.lst ((takL ins b ins.length).map fun i : Nat => D.int i)) M
theorem ok_takers (T : Tx w K mg) : FnG P w K mg base CX0 2 T.f_takers T.e_takers ["web", "beat"] (rSp K (sp_takers T.C_Web)) := by
  refine fnT T.d_takers.fn sc_takers (fun ds M x k h => h.1) (by decide) (fun cdv A outer s H E rm => ?_) (fun ds M x k h => h)
  refine ⟨_, (yss_one (ys_ret (xl_frz (xl_lc (own := [("inlet", 2), ("_", 3), ("rhythm", 4)]) (g := gTup K 2 (gCons (gName 2) (gCons (gTup K 2 (gCons (gName 3) (gCons (gName 4) gNil))) gNil))) rfl sc_takers.nd (xi_enum (by rfl) T.m_enumerate (xa_cons (xmeth0 (xv 0) T.c_Web T.d_Web_inlets.mt (ok_Web_inlets T) (rm.mono (by decide)) T.d_Web_inlets.bi pass0) xa_nil)) (blkOk_by (N := ["web", "beat", "inlet", "_", "rhythm"]) (sc := defScope s_takers) (by decide +kernel)) (tg_in2 (by decide) (by decide) (by decide)) (fun _ _ _ _ _ => pg_tup rfl (pgs_cons (pg_name (i := 2) sc_takers.nd rfl (by first | exact Or.inl rfl | exact Or.inr rfl)) (pgs_cons (pg_tup rfl (pgs_cons (pg_name (i := 3) sc_takers.nd rfl (by first | exact Or.inl rfl | exact Or.inr rfl)) (pgs_cons (pg_name (i := 4) sc_takers.nd rfl (by first | exact Or.inl rfl | exact Or.inr rfl)) pgs_nil))) pgs_nil))) (fun _ _ _ _ _ => xts_one (xt_tru (xcall (ok_takes T) (rm.mono (by decide)) (by rfl) T.d_takes.gl T.d_takes.fn.kp T.d_takes.bi pass0 (xa_cons (xv 4) (xa_cons (xv 1) xa_nil))))) (fun _ _ _ _ _ => (xv 2)))))), ?_⟩
  intro ds M k h
  obtain ⟨-, dw, ins, gs, b, rfl, hw, rh, few, hk⟩ := h
  rw [show start0 ["web", "beat", "inlet", "_", "rhythm"] [dw, D.int b] = [some dw, some (.int b), none, none, none] from rfl]
  simp only [TV.wSeq, TV.wIf, TV.wOr, TV.wNot, TV.wAnd, TV.wAndV, TV.wOrV, TV.wNotV, TV.wIfE, TV.wTru, TV.wCB, TV.wCons, TV.wVar, TV.wC, TV.wNil, TV.wTest, TV.wChain, TV.wRet, TV.wRetN, TV.wNext, TV.wSet, TV.wDrop, TV.wFrz, TV.wMut, TV.wDisp, TV.wTup, TV.wOp, TV.wCall, TV.wDget, TV.wDput, TV.wFor, TV.wLc, TV.wiL, TV.wiT, TV.wiS, TV.wiR1, TV.wiR2, TV.wiEnumS, TV.wiEnum, TV.wgName, TV.wgTup, TV.wgCons, TV.wgNil, TV.wPar, TV.wPar3, TV.wAsg, TV.wUn, TV.wBM, TV.wApp, TV.wSetI, TV.wListC, TV.wSlL, TV.wSlS, TV.wSlT, TV.wNo, TV.wPart, TV.wYes, TV.wRev, TV.wMelt, TV.wNever, TV.wipe0, TV.wDictM, TV.wDictF, TV.wDict0F, TV.wPairs, List.getElem?_cons_zero, List.getElem?_cons_succ, List.set_cons_zero, List.set_cons_succ, Option.some.injEq, exists_eq_left', exists_eq_left, List.cons.injEq, and_true, true_and, TV.D.str.injEq, TV.D.int.injEq, TV.D.bl.injEq, TV.D.lst.injEq, TV.D.tup.injEq, TV.D.obj.injEq, List.map_cons, List.map_nil, TV.cmpD, TV.subD, TV.intD, TV.inSD, TV.ninSD, TV.isND, TV.notND, TV.isBD, TV.divmodC, TV.absC, isiC', TV.len_str, TV.len_lst, TV.len_tup, TV.tru_bl, TV.tru_int, TV.tru_str, TV.tru_lst, TV.tru_tup, TV.add_int, TV.add_str, TV.add_lst, TV.add_tup, TV.mul_int, TV.mul_str, TV.ix_str, TV.ix_lst, TV.ix_tup, TV.count_str, TV.eq_str, TV.ne_str, TV.eq_int, TV.ne_int, TV.eq_lst, TV.ne_lst, TV.sgx, TV.vw_non, TV.vw_bl, TV.vw_int, TV.vw_str, TV.vw_tup, TV.vw_lst, TV.vw_fro, TV.vw_dct, TV.key_str, TV.key_int, false_or, or_false, List.length_nil, TV.ty_non, TV.ty_bl, TV.ty_int, TV.ty_str, TV.ty_tup, TV.ty_lst, TV.ty_dct, TV.tn_str, TV.tn_int, TV.tn_bool, TV.tn_list, TV.tn_tuple, TV.tn_dict, TV.isT, String.reduceBEq, Bool.and_false, Bool.or_false, Bool.false_and, Bool.and_true, Bool.true_or, Bool.or_true, and_assoc, TV.D.ty.injEq, reduceCtorEq, exists_const, exists_and_left, exists_and_right, if_true, if_false, Bool.not_true, Bool.not_false, Bool.false_eq_true, reduceIte, TV.wExt, TV.wPop, TV.wPopAt, TV.wChg, TV.wAny, TV.wAug, TV.wWhile, TV.kgetD, TV.kinD, TV.wLenSet, TV.wLenO, TV.wEqO, TV.wMakeF, TV.wMeth, TV.wFld, TV.wSetF, TV.sumC, TV.minC, TV.maxC, TV.lcmC, TV.isiO, TV.wLc2, TV.wSlT, TV.wIsiT, List.append_nil, TV.wEither, TV.wGet2, TV.wDict1, TV.wDictZip, TV.sumIC, TV.wiZip, TV.wCallL, TV.mulTD]
  refine ⟨_, hw, no_fld (by decide +kernel) (by decide +kernel), rfl, dw, ins, gs, rfl, hw, .inl ⟨_, rfl, by rw [pairsN_len, List.length_map]; omega, fun i acc M' => M' = M ∧ acc = (takL ins b i).map fun i : Nat => D.int i, ⟨rfl, rfl⟩, ?_, ?_⟩⟩
  · rintro i e acc M' he ⟨rfl, rfl⟩
    obtain ⟨e', h1, rfl⟩ := pairs_get he
    obtain ⟨q, h2, rfl⟩ := map_get h1
    have r := rh q (List.mem_of_getElem? h2)
    refine ⟨rfl, _, rfl, rfl, _, _, rfl, _, _, rfl, _, rfl, rfl, _, _, rfl, _, _, rfl, rfl, rfl, rfl, q.2, b, rfl, r.1, by have := r.2.1; omega, ?_⟩
    dsimp only
    rw [tru_bl, takL_succ h2]
    cases e : takesB q.2 b with
    | true => rw [if_pos rfl, if_pos rfl]; exact ⟨rfl, by simp⟩
    | false => rw [if_neg (by decide), if_neg (by decide)]; exact ⟨rfl, by simp⟩
  · rintro acc M' ⟨rfl, rfl⟩
    rw [pairsN_len, List.length_map]
    exact ⟨rfl, hk⟩
def lim (p : Str × Str) (b : Int) : Nat := (timesI p.2 b).toNat
def cutF (ins : List (Str × Str)) (fd : List (List Int)) (b : Int) : List (List Int) := (fd.zip ins).map fun z => z.1.take (lim z.2 b)
theorem zipD_inv {xs ys : List D} {i : Nat} {e : D} (h : (zipD xs ys)[i]? = some e) : ∃ a b, xs[i]? = some a ∧ ys[i]? = some b ∧ e = .tup [a, b] := by
  unfold zipD at h
  rw [List.getElem?_map] at h
  cases z : (xs.zip ys)[i]? with
  | none => rw [z] at h; cases h
  | some p =>
    rw [z] at h
    obtain ⟨h1, h2⟩ := List.getElem?_zip_eq_some.mp z
    exact ⟨p.1, p.2, h1, h2, (Option.some.inj h).symm⟩
theorem cutD_to {xs : List D} {x : Int} (h : 0 ≤ x) : TV.cutD xs none (some x) = xs.take x.toNat := by
  unfold TV.cutD HT.sIx
  simp only [List.drop_zero, Nat.sub_zero]
  rw [if_neg (by omega)]
  exact List.take_eq_take_iff.mpr (by omega)
theorem cutD_from {xs : List D} {x : Int} (h : 0 ≤ x) : TV.cutD xs (some x) none = xs.drop x.toNat := by
  unfold TV.cutD HT.sIx
  simp only
  rw [if_neg (by omega), List.take_of_length_le (by rw [List.length_drop]; omega)]
  by_cases hx : x.toNat ≤ xs.length
  · rw [Nat.min_eq_left hx]
  · rw [Nat.min_eq_right (by omega), List.drop_of_length_le (Nat.le_refl _), List.drop_of_length_le (by omega)]
theorem times_nn {z : Str} (h : okRh z) {b : Int} (hb : 0 ≤ b) : 0 ≤ timesI z b := by have := times_far h hb; omega
theorem row_to {r : List Int} {p : Str × Str} {b : Int} (h : okRh p.2) (hb : 0 ≤ b) : D.tup (TV.cutD (r.map D.int) none (some (timesI p.2 b))) = rowD (r.take (lim p b)) := by
  rw [cutD_to (times_nn h hb)]
  unfold rowD lim
  rw [List.map_take]
theorem row_from {r : List Int} {p : Str × Str} {b : Int} (h : okRh p.2) (hb : 0 ≤ b) : D.tup (TV.cutD (r.map D.int) (some (timesI p.2 b)) none) = rowD (r.drop (lim p b)) := by
  rw [cutD_from (times_nn h hb)]
  unfold rowD lim
  rw [List.map_drop]
def sp_cut (C : Addr) : DSp := fun ds M _ k => ds.length = 3 ∧ ∃ (dw d : D) (ins : List (Str × Str)) (gs : List Gt) (fd : List (List Int)) (b : Int), ds = [dw, d, .int b] ∧ view M dw = .ins C (webOf ins gs) ∧ seqOf M d (fd.map rowD) ∧ fd.length = ins.length ∧ ins.length ≤ 3 ∧ (∀ r ∈ fd, okRow r) ∧
  (∀ p ∈ ins, okRh p.2) ∧ 0 ≤ b ∧ b < 2 ^ 1000 ∧ k (.tup ((cutF ins fd b).map rowD)) M
theorem ok_cut (T : Tx w K mg) : FnG P w K mg base CX0 10 T.f_cut T.e_cut ["web", "feed", "beat"] (rSp K (sp_cut T.C_Web)) := by
  refine fnT T.d_cut.fn sc_cut (fun ds M x k h => h.1) (by decide) (fun cdv A outer s H E rm => ?_) (fun ds M x k h => h)
  refine ⟨_, (yss_cons (ys_expr (xcall (ok_check_feed T) (rm.mono (by decide)) (by rfl) T.d_check_feed.gl T.d_check_feed.fn.kp T.d_check_feed.bi pass0 (xa_cons (xv 0) (xa_cons (xv 1) xa_nil))))
      (yss_one (ys_ret (xe_callTy call_tuple_of l_tupleC (by rfl) T.m_tuple (by decide +kernel) (xa_cons (xl_frz (xl_lc (own := [("row", 3), ("many", 4)]) (g := gTup K 2 (gCons (gName 3) (gCons (gName 4) (gNil)))) rfl sc_cut.nd (xi_zip (by rfl) T.m_zip (xa_cons (xv 1) (xa_cons (xcall (ok_times_by T) (rm.mono (by decide)) (by rfl) T.d_times_by.gl T.d_times_by.fn.kp T.d_times_by.bi pass0 (xa_cons (xv 0) (xa_cons (xv 2) xa_nil))) xa_nil))) (blkOk_by (N := ["web", "feed", "beat", "row", "many"]) (sc := defScope s_cut) (by decide +kernel)) (tg_tup2 (by decide) (by decide)) (fun _ _ _ _ _ => pg_tup rfl (pgs_cons (pg_name (i := 3) sc_cut.nd rfl (by first | exact Or.inl rfl | exact Or.inr rfl)) (pgs_cons (pg_name (i := 4) sc_cut.nd rfl (by first | exact Or.inl rfl | exact Or.inr rfl)) pgs_nil))) (fun _ _ _ _ _ => xts_nil) (fun _ _ _ _ _ => (xe_sliceT (xv 3) xo_none (xo_some (xv 4)))))) xa_nil))))), ?_⟩
  intro ds M k h
  obtain ⟨-, dw, d, ins, gs, fd, b, rfl, hw, hd, le, few, hr, rh, b0, b1, hk⟩ := h
  rw [show start0 ["web", "feed", "beat", "row", "many"] [dw, d, D.int b] = [some dw, some d, some (.int b), none, none] from rfl]
  simp only [TV.wSeq, TV.wIf, TV.wOr, TV.wNot, TV.wAnd, TV.wAndV, TV.wOrV, TV.wNotV, TV.wIfE, TV.wTru, TV.wCB, TV.wCons, TV.wVar, TV.wC, TV.wNil, TV.wTest, TV.wChain, TV.wRet, TV.wRetN, TV.wNext, TV.wSet, TV.wDrop, TV.wFrz, TV.wMut, TV.wDisp, TV.wTup, TV.wOp, TV.wCall, TV.wDget, TV.wDput, TV.wFor, TV.wLc, TV.wiL, TV.wiT, TV.wiS, TV.wiR1, TV.wiR2, TV.wiEnumS, TV.wiEnum, TV.wgName, TV.wgTup, TV.wgCons, TV.wgNil, TV.wPar, TV.wPar3, TV.wAsg, TV.wUn, TV.wBM, TV.wApp, TV.wSetI, TV.wListC, TV.wSlL, TV.wSlS, TV.wSlT, TV.wNo, TV.wPart, TV.wYes, TV.wRev, TV.wMelt, TV.wNever, TV.wipe0, TV.wDictM, TV.wDictF, TV.wDict0F, TV.wPairs, List.getElem?_cons_zero, List.getElem?_cons_succ, List.set_cons_zero, List.set_cons_succ, Option.some.injEq, exists_eq_left', exists_eq_left, List.cons.injEq, and_true, true_and, TV.D.str.injEq, TV.D.int.injEq, TV.D.bl.injEq, TV.D.lst.injEq, TV.D.tup.injEq, TV.D.obj.injEq, List.map_cons, List.map_nil, TV.cmpD, TV.subD, TV.intD, TV.inSD, TV.ninSD, TV.isND, TV.notND, TV.isBD, TV.divmodC, TV.absC, isiC', TV.len_str, TV.len_lst, TV.len_tup, TV.tru_bl, TV.tru_int, TV.tru_str, TV.tru_lst, TV.tru_tup, TV.add_int, TV.add_str, TV.add_lst, TV.add_tup, TV.mul_int, TV.mul_str, TV.ix_str, TV.ix_lst, TV.ix_tup, TV.count_str, TV.eq_str, TV.ne_str, TV.eq_int, TV.ne_int, TV.eq_lst, TV.ne_lst, TV.sgx, TV.vw_non, TV.vw_bl, TV.vw_int, TV.vw_str, TV.vw_tup, TV.vw_lst, TV.vw_fro, TV.vw_dct, TV.key_str, TV.key_int, false_or, or_false, List.length_nil, TV.ty_non, TV.ty_bl, TV.ty_int, TV.ty_str, TV.ty_tup, TV.ty_lst, TV.ty_dct, TV.tn_str, TV.tn_int, TV.tn_bool, TV.tn_list, TV.tn_tuple, TV.tn_dict, TV.isT, String.reduceBEq, Bool.and_false, Bool.or_false, Bool.false_and, Bool.and_true, Bool.true_or, Bool.or_true, and_assoc, TV.D.ty.injEq, reduceCtorEq, exists_const, exists_and_left, exists_and_right, if_true, if_false, Bool.not_true, Bool.not_false, Bool.false_eq_true, reduceIte, TV.wExt, TV.wPop, TV.wPopAt, TV.wChg, TV.wAny, TV.wAug, TV.wWhile, TV.kgetD, TV.kinD, TV.wLenSet, TV.wLenO, TV.wEqO, TV.wMakeF, TV.wMeth, TV.wFld, TV.wSetF, TV.sumC, TV.minC, TV.maxC, TV.lcmC, TV.isiO, TV.wLc2, TV.wSlT, TV.wIsiT, List.append_nil, TV.wEither, TV.wGet2, TV.wDict1, TV.wDictZip, TV.sumIC, TV.wiZip, TV.wCallL, TV.mulTD]
  refine ⟨rfl, dw, d, ins, gs, fd, rfl, hw, hd, le, by omega, hr, rfl, dw, ins, gs, b, rfl, hw, rh, few, b0, b1, ?_⟩
  simp only [TV.wSeq, TV.wIf, TV.wOr, TV.wNot, TV.wAnd, TV.wAndV, TV.wOrV, TV.wNotV, TV.wIfE, TV.wTru, TV.wCB, TV.wCons, TV.wVar, TV.wC, TV.wNil, TV.wTest, TV.wChain, TV.wRet, TV.wRetN, TV.wNext, TV.wSet, TV.wDrop, TV.wFrz, TV.wMut, TV.wDisp, TV.wTup, TV.wOp, TV.wCall, TV.wDget, TV.wDput, TV.wFor, TV.wLc, TV.wiL, TV.wiT, TV.wiS, TV.wiR1, TV.wiR2, TV.wiEnumS, TV.wiEnum, TV.wgName, TV.wgTup, TV.wgCons, TV.wgNil, TV.wPar, TV.wPar3, TV.wAsg, TV.wUn, TV.wBM, TV.wApp, TV.wSetI, TV.wListC, TV.wSlL, TV.wSlS, TV.wSlT, TV.wNo, TV.wPart, TV.wYes, TV.wRev, TV.wMelt, TV.wNever, TV.wipe0, TV.wDictM, TV.wDictF, TV.wDict0F, TV.wPairs, List.getElem?_cons_zero, List.getElem?_cons_succ, List.set_cons_zero, List.set_cons_succ, Option.some.injEq, exists_eq_left', exists_eq_left, List.cons.injEq, and_true, true_and, TV.D.str.injEq, TV.D.int.injEq, TV.D.bl.injEq, TV.D.lst.injEq, TV.D.tup.injEq, TV.D.obj.injEq, List.map_cons, List.map_nil, TV.cmpD, TV.subD, TV.intD, TV.inSD, TV.ninSD, TV.isND, TV.notND, TV.isBD, TV.divmodC, TV.absC, isiC', TV.len_str, TV.len_lst, TV.len_tup, TV.tru_bl, TV.tru_int, TV.tru_str, TV.tru_lst, TV.tru_tup, TV.add_int, TV.add_str, TV.add_lst, TV.add_tup, TV.mul_int, TV.mul_str, TV.ix_str, TV.ix_lst, TV.ix_tup, TV.count_str, TV.eq_str, TV.ne_str, TV.eq_int, TV.ne_int, TV.eq_lst, TV.ne_lst, TV.sgx, TV.vw_non, TV.vw_bl, TV.vw_int, TV.vw_str, TV.vw_tup, TV.vw_lst, TV.vw_fro, TV.vw_dct, TV.key_str, TV.key_int, false_or, or_false, List.length_nil, TV.ty_non, TV.ty_bl, TV.ty_int, TV.ty_str, TV.ty_tup, TV.ty_lst, TV.ty_dct, TV.tn_str, TV.tn_int, TV.tn_bool, TV.tn_list, TV.tn_tuple, TV.tn_dict, TV.isT, String.reduceBEq, Bool.and_false, Bool.or_false, Bool.false_and, Bool.and_true, Bool.true_or, Bool.or_true, and_assoc, TV.D.ty.injEq, reduceCtorEq, exists_const, exists_and_left, exists_and_right, if_true, if_false, Bool.not_true, Bool.not_false, Bool.false_eq_true, reduceIte, TV.wExt, TV.wPop, TV.wPopAt, TV.wChg, TV.wAny, TV.wAug, TV.wWhile, TV.kgetD, TV.kinD, TV.wLenSet, TV.wLenO, TV.wEqO, TV.wMakeF, TV.wMeth, TV.wFld, TV.wSetF, TV.sumC, TV.minC, TV.maxC, TV.lcmC, TV.isiO, TV.wLc2, TV.wSlT, TV.wIsiT, List.append_nil, TV.wEither, TV.wGet2, TV.wDict1, TV.wDictZip, TV.sumIC, TV.wiZip, TV.wCallL, TV.mulTD]
  refine ⟨fd.map rowD, hd, ins.map fun p => D.int (timesI p.2 b), .inl rfl, by rw [zipD_len, List.length_map]; omega, fun i acc M' => M' = M ∧ acc = ((cutF ins fd b).take i).map rowD, ⟨rfl, rfl⟩, ?_, ?_⟩
  · rintro i e acc M' he ⟨rfl, rfl⟩
    obtain ⟨a, c, h1, h2, rfl⟩ := zipD_inv he
    obtain ⟨r, g1, rfl⟩ := map_get h1
    obtain ⟨q, g2, rfl⟩ := map_get h2
    refine ⟨hd, .inl rfl, _, rfl, rfl, _, _, rfl, _, _, rfl, rfl, _, rfl, _, rfl, rfl, ?_⟩
    have e3 : (cutF ins fd b)[i]? = some (r.take (lim q b)) := by
      unfold cutF
      rw [List.getElem?_map, (List.getElem?_zip_eq_some (z := (r, q))).mpr ⟨g1, g2⟩]
      rfl
    rw [row_to (rh q (List.mem_of_getElem? g2)) b0, List.take_add_one, e3]
    simp
  · rintro acc M' ⟨rfl, rfl⟩
    rw [zipD_len, List.length_map, List.length_map, show min fd.length ins.length = (cutF ins fd b).length by unfold cutF; rw [List.length_map, List.length_zip], List.take_length]
    refine ⟨hd, .inl rfl, _, _, rfl, .inl rfl, ?_⟩
    exact hk
def leftF (ins : List (Str × Str)) (fd : List (List Int)) (b : Int) : List (List Int) := (fd.zip ins).map fun z => z.1.drop (lim z.2 b)
def sp_left (C : Addr) : DSp := fun ds M _ k => ds.length = 3 ∧ ∃ (dw d : D) (ins : List (Str × Str)) (gs : List Gt) (fd : List (List Int)) (b : Int), ds = [dw, d, .int b] ∧ view M dw = .ins C (webOf ins gs) ∧ seqOf M d (fd.map rowD) ∧ fd.length = ins.length ∧ ins.length ≤ 3 ∧ (∀ r ∈ fd, okRow r) ∧
  (∀ p ∈ ins, okRh p.2) ∧ 0 ≤ b ∧ b < 2 ^ 1000 ∧ k (.tup ((leftF ins fd b).map rowD)) M
theorem ok_left (T : Tx w K mg) : FnG P w K mg base CX0 10 T.f_left T.e_left ["web", "feed", "beat"] (rSp K (sp_left T.C_Web)) := by
  refine fnT T.d_left.fn sc_left (fun ds M x k h => h.1) (by decide) (fun cdv A outer s H E rm => ?_) (fun ds M x k h => h)
  refine ⟨_, (yss_cons (ys_expr (xcall (ok_check_feed T) (rm.mono (by decide)) (by rfl) T.d_check_feed.gl T.d_check_feed.fn.kp T.d_check_feed.bi pass0 (xa_cons (xv 0) (xa_cons (xv 1) xa_nil))))
      (yss_one (ys_ret (xe_callTy call_tuple_of l_tupleC (by rfl) T.m_tuple (by decide +kernel) (xa_cons (xl_frz (xl_lc (own := [("row", 3), ("many", 4)]) (g := gTup K 2 (gCons (gName 3) (gCons (gName 4) (gNil)))) rfl sc_left.nd (xi_zip (by rfl) T.m_zip (xa_cons (xv 1) (xa_cons (xcall (ok_times_by T) (rm.mono (by decide)) (by rfl) T.d_times_by.gl T.d_times_by.fn.kp T.d_times_by.bi pass0 (xa_cons (xv 0) (xa_cons (xv 2) xa_nil))) xa_nil))) (blkOk_by (N := ["web", "feed", "beat", "row", "many"]) (sc := defScope s_left) (by decide +kernel)) (tg_tup2 (by decide) (by decide)) (fun _ _ _ _ _ => pg_tup rfl (pgs_cons (pg_name (i := 3) sc_left.nd rfl (by first | exact Or.inl rfl | exact Or.inr rfl)) (pgs_cons (pg_name (i := 4) sc_left.nd rfl (by first | exact Or.inl rfl | exact Or.inr rfl)) pgs_nil))) (fun _ _ _ _ _ => xts_nil) (fun _ _ _ _ _ => (xe_sliceT (xv 3) (xo_some (xv 4)) xo_none)))) xa_nil))))), ?_⟩
  intro ds M k h
  obtain ⟨-, dw, d, ins, gs, fd, b, rfl, hw, hd, le, few, hr, rh, b0, b1, hk⟩ := h
  rw [show start0 ["web", "feed", "beat", "row", "many"] [dw, d, D.int b] = [some dw, some d, some (.int b), none, none] from rfl]
  simp only [TV.wSeq, TV.wIf, TV.wOr, TV.wNot, TV.wAnd, TV.wAndV, TV.wOrV, TV.wNotV, TV.wIfE, TV.wTru, TV.wCB, TV.wCons, TV.wVar, TV.wC, TV.wNil, TV.wTest, TV.wChain, TV.wRet, TV.wRetN, TV.wNext, TV.wSet, TV.wDrop, TV.wFrz, TV.wMut, TV.wDisp, TV.wTup, TV.wOp, TV.wCall, TV.wDget, TV.wDput, TV.wFor, TV.wLc, TV.wiL, TV.wiT, TV.wiS, TV.wiR1, TV.wiR2, TV.wiEnumS, TV.wiEnum, TV.wgName, TV.wgTup, TV.wgCons, TV.wgNil, TV.wPar, TV.wPar3, TV.wAsg, TV.wUn, TV.wBM, TV.wApp, TV.wSetI, TV.wListC, TV.wSlL, TV.wSlS, TV.wSlT, TV.wNo, TV.wPart, TV.wYes, TV.wRev, TV.wMelt, TV.wNever, TV.wipe0, TV.wDictM, TV.wDictF, TV.wDict0F, TV.wPairs, List.getElem?_cons_zero, List.getElem?_cons_succ, List.set_cons_zero, List.set_cons_succ, Option.some.injEq, exists_eq_left', exists_eq_left, List.cons.injEq, and_true, true_and, TV.D.str.injEq, TV.D.int.injEq, TV.D.bl.injEq, TV.D.lst.injEq, TV.D.tup.injEq, TV.D.obj.injEq, List.map_cons, List.map_nil, TV.cmpD, TV.subD, TV.intD, TV.inSD, TV.ninSD, TV.isND, TV.notND, TV.isBD, TV.divmodC, TV.absC, isiC', TV.len_str, TV.len_lst, TV.len_tup, TV.tru_bl, TV.tru_int, TV.tru_str, TV.tru_lst, TV.tru_tup, TV.add_int, TV.add_str, TV.add_lst, TV.add_tup, TV.mul_int, TV.mul_str, TV.ix_str, TV.ix_lst, TV.ix_tup, TV.count_str, TV.eq_str, TV.ne_str, TV.eq_int, TV.ne_int, TV.eq_lst, TV.ne_lst, TV.sgx, TV.vw_non, TV.vw_bl, TV.vw_int, TV.vw_str, TV.vw_tup, TV.vw_lst, TV.vw_fro, TV.vw_dct, TV.key_str, TV.key_int, false_or, or_false, List.length_nil, TV.ty_non, TV.ty_bl, TV.ty_int, TV.ty_str, TV.ty_tup, TV.ty_lst, TV.ty_dct, TV.tn_str, TV.tn_int, TV.tn_bool, TV.tn_list, TV.tn_tuple, TV.tn_dict, TV.isT, String.reduceBEq, Bool.and_false, Bool.or_false, Bool.false_and, Bool.and_true, Bool.true_or, Bool.or_true, and_assoc, TV.D.ty.injEq, reduceCtorEq, exists_const, exists_and_left, exists_and_right, if_true, if_false, Bool.not_true, Bool.not_false, Bool.false_eq_true, reduceIte, TV.wExt, TV.wPop, TV.wPopAt, TV.wChg, TV.wAny, TV.wAug, TV.wWhile, TV.kgetD, TV.kinD, TV.wLenSet, TV.wLenO, TV.wEqO, TV.wMakeF, TV.wMeth, TV.wFld, TV.wSetF, TV.sumC, TV.minC, TV.maxC, TV.lcmC, TV.isiO, TV.wLc2, TV.wSlT, TV.wIsiT, List.append_nil, TV.wEither, TV.wGet2, TV.wDict1, TV.wDictZip, TV.sumIC, TV.wiZip, TV.wCallL, TV.mulTD]
  refine ⟨rfl, dw, d, ins, gs, fd, rfl, hw, hd, le, by omega, hr, rfl, dw, ins, gs, b, rfl, hw, rh, few, b0, b1, ?_⟩
  simp only [TV.wSeq, TV.wIf, TV.wOr, TV.wNot, TV.wAnd, TV.wAndV, TV.wOrV, TV.wNotV, TV.wIfE, TV.wTru, TV.wCB, TV.wCons, TV.wVar, TV.wC, TV.wNil, TV.wTest, TV.wChain, TV.wRet, TV.wRetN, TV.wNext, TV.wSet, TV.wDrop, TV.wFrz, TV.wMut, TV.wDisp, TV.wTup, TV.wOp, TV.wCall, TV.wDget, TV.wDput, TV.wFor, TV.wLc, TV.wiL, TV.wiT, TV.wiS, TV.wiR1, TV.wiR2, TV.wiEnumS, TV.wiEnum, TV.wgName, TV.wgTup, TV.wgCons, TV.wgNil, TV.wPar, TV.wPar3, TV.wAsg, TV.wUn, TV.wBM, TV.wApp, TV.wSetI, TV.wListC, TV.wSlL, TV.wSlS, TV.wSlT, TV.wNo, TV.wPart, TV.wYes, TV.wRev, TV.wMelt, TV.wNever, TV.wipe0, TV.wDictM, TV.wDictF, TV.wDict0F, TV.wPairs, List.getElem?_cons_zero, List.getElem?_cons_succ, List.set_cons_zero, List.set_cons_succ, Option.some.injEq, exists_eq_left', exists_eq_left, List.cons.injEq, and_true, true_and, TV.D.str.injEq, TV.D.int.injEq, TV.D.bl.injEq, TV.D.lst.injEq, TV.D.tup.injEq, TV.D.obj.injEq, List.map_cons, List.map_nil, TV.cmpD, TV.subD, TV.intD, TV.inSD, TV.ninSD, TV.isND, TV.notND, TV.isBD, TV.divmodC, TV.absC, isiC', TV.len_str, TV.len_lst, TV.len_tup, TV.tru_bl, TV.tru_int, TV.tru_str, TV.tru_lst, TV.tru_tup, TV.add_int, TV.add_str, TV.add_lst, TV.add_tup, TV.mul_int, TV.mul_str, TV.ix_str, TV.ix_lst, TV.ix_tup, TV.count_str, TV.eq_str, TV.ne_str, TV.eq_int, TV.ne_int, TV.eq_lst, TV.ne_lst, TV.sgx, TV.vw_non, TV.vw_bl, TV.vw_int, TV.vw_str, TV.vw_tup, TV.vw_lst, TV.vw_fro, TV.vw_dct, TV.key_str, TV.key_int, false_or, or_false, List.length_nil, TV.ty_non, TV.ty_bl, TV.ty_int, TV.ty_str, TV.ty_tup, TV.ty_lst, TV.ty_dct, TV.tn_str, TV.tn_int, TV.tn_bool, TV.tn_list, TV.tn_tuple, TV.tn_dict, TV.isT, String.reduceBEq, Bool.and_false, Bool.or_false, Bool.false_and, Bool.and_true, Bool.true_or, Bool.or_true, and_assoc, TV.D.ty.injEq, reduceCtorEq, exists_const, exists_and_left, exists_and_right, if_true, if_false, Bool.not_true, Bool.not_false, Bool.false_eq_true, reduceIte, TV.wExt, TV.wPop, TV.wPopAt, TV.wChg, TV.wAny, TV.wAug, TV.wWhile, TV.kgetD, TV.kinD, TV.wLenSet, TV.wLenO, TV.wEqO, TV.wMakeF, TV.wMeth, TV.wFld, TV.wSetF, TV.sumC, TV.minC, TV.maxC, TV.lcmC, TV.isiO, TV.wLc2, TV.wSlT, TV.wIsiT, List.append_nil, TV.wEither, TV.wGet2, TV.wDict1, TV.wDictZip, TV.sumIC, TV.wiZip, TV.wCallL, TV.mulTD]
  refine ⟨fd.map rowD, hd, ins.map fun p => D.int (timesI p.2 b), .inl rfl, by rw [zipD_len, List.length_map]; omega, fun i acc M' => M' = M ∧ acc = ((leftF ins fd b).take i).map rowD, ⟨rfl, rfl⟩, ?_, ?_⟩
  · rintro i e acc M' he ⟨rfl, rfl⟩
    obtain ⟨a, c, h1, h2, rfl⟩ := zipD_inv he
    obtain ⟨r, g1, rfl⟩ := map_get h1
    obtain ⟨q, g2, rfl⟩ := map_get h2
    refine ⟨hd, .inl rfl, _, rfl, rfl, _, _, rfl, _, _, rfl, rfl, _, rfl, _, rfl, rfl, ?_⟩
    have e3 : (leftF ins fd b)[i]? = some (r.drop (lim q b)) := by
      unfold leftF
      rw [List.getElem?_map, (List.getElem?_zip_eq_some (z := (r, q))).mpr ⟨g1, g2⟩]
      rfl
    rw [row_from (rh q (List.mem_of_getElem? g2)) b0, List.take_add_one, e3]
    simp
  · rintro acc M' ⟨rfl, rfl⟩
    rw [zipD_len, List.length_map, List.length_map, show min fd.length ins.length = (leftF ins fd b).length by unfold leftF; rw [List.length_map, List.length_zip], List.take_length]
    refine ⟨hd, .inl rfl, _, _, rfl, .inl rfl, ?_⟩
    exact hk
def endlessB (ins : List (Str × Str)) (fd : List (List Int)) (b : Int) : Bool := (fd.zip ins).all fun z => decide (lim z.2 b ≤ z.1.length)
def sp_is_endless (C : Addr) : DSp := fun ds M _ k => ds.length = 3 ∧ ∃ (dw d : D) (ins : List (Str × Str)) (gs : List Gt) (fd : List (List Int)) (b : Int), ds = [dw, d, .int b] ∧ view M dw = .ins C (webOf ins gs) ∧ seqOf M d (fd.map rowD) ∧ fd.length = ins.length ∧ ins.length ≤ 3 ∧ (∀ r ∈ fd, okRow r) ∧
  (∀ p ∈ ins, okRh p.2) ∧ 0 ≤ b ∧ b < 2 ^ 1000 ∧ k (.bl (endlessB ins fd b)) M
theorem ok_is_endless (T : Tx w K mg) : FnG P w K mg base CX0 10 T.f_is_endless T.e_is_endless ["web", "feed", "beat"] (rSp K (sp_is_endless T.C_Web)) := by
  refine fnT T.d_is_endless.fn sc_is_endless (fun ds M x k h => h.1) (by decide) (fun cdv A outer s H E rm => ?_) (fun ds M x k h => h)
  refine ⟨_, (yss_cons (ys_expr (xcall (ok_check_feed T) (rm.mono (by decide)) (by rfl) T.d_check_feed.gl T.d_check_feed.fn.kp T.d_check_feed.bi pass0 (xa_cons (xv 0) (xa_cons (xv 1) xa_nil))))
      (yss_one (ys_ret (xe_callB (cr_all rfl) l_allC (by rfl) T.m_all (by decide +kernel) (xa_cons (xl_frz (xl_lc (own := [("row", 3), ("many", 4)]) (g := gTup K 2 (gCons (gName 3) (gCons (gName 4) (gNil)))) rfl sc_is_endless.nd (xi_zip (by rfl) T.m_zip (xa_cons (xv 1) (xa_cons (xcall (ok_times_by T) (rm.mono (by decide)) (by rfl) T.d_times_by.gl T.d_times_by.fn.kp T.d_times_by.bi pass0 (xa_cons (xv 0) (xa_cons (xv 2) xa_nil))) xa_nil))) (blkOk_by (N := ["web", "feed", "beat", "row", "many"]) (sc := defScope s_is_endless) (by decide +kernel)) (tg_tup2 (by decide) (by decide)) (fun _ _ _ _ _ => pg_tup rfl (pgs_cons (pg_name (i := 3) sc_is_endless.nd rfl (by first | exact Or.inl rfl | exact Or.inr rfl)) (pgs_cons (pg_name (i := 4) sc_is_endless.nd rfl (by first | exact Or.inl rfl | exact Or.inr rfl)) pgs_nil))) (fun _ _ _ _ _ => xts_nil) (fun _ _ _ _ _ => (xe_cmp op_ge l_cmpD (xe_callB call_lenD' l_lenC (by rfl) T.m_len (by decide +kernel) (xa_cons (xv 3) xa_nil)) (xv 4) (nomark _))))) xa_nil))))), ?_⟩
  intro ds M k h
  obtain ⟨-, dw, d, ins, gs, fd, b, rfl, hw, hd, le, few, hr, rh, b0, b1, hk⟩ := h
  rw [show start0 ["web", "feed", "beat", "row", "many"] [dw, d, D.int b] = [some dw, some d, some (.int b), none, none] from rfl]
  simp only [TV.wSeq, TV.wIf, TV.wOr, TV.wNot, TV.wAnd, TV.wAndV, TV.wOrV, TV.wNotV, TV.wIfE, TV.wTru, TV.wCB, TV.wCons, TV.wVar, TV.wC, TV.wNil, TV.wTest, TV.wChain, TV.wRet, TV.wRetN, TV.wNext, TV.wSet, TV.wDrop, TV.wFrz, TV.wMut, TV.wDisp, TV.wTup, TV.wOp, TV.wCall, TV.wDget, TV.wDput, TV.wFor, TV.wLc, TV.wiL, TV.wiT, TV.wiS, TV.wiR1, TV.wiR2, TV.wiEnumS, TV.wiEnum, TV.wgName, TV.wgTup, TV.wgCons, TV.wgNil, TV.wPar, TV.wPar3, TV.wAsg, TV.wUn, TV.wBM, TV.wApp, TV.wSetI, TV.wListC, TV.wSlL, TV.wSlS, TV.wSlT, TV.wNo, TV.wPart, TV.wYes, TV.wRev, TV.wMelt, TV.wNever, TV.wipe0, TV.wDictM, TV.wDictF, TV.wDict0F, TV.wPairs, List.getElem?_cons_zero, List.getElem?_cons_succ, List.set_cons_zero, List.set_cons_succ, Option.some.injEq, exists_eq_left', exists_eq_left, List.cons.injEq, and_true, true_and, TV.D.str.injEq, TV.D.int.injEq, TV.D.bl.injEq, TV.D.lst.injEq, TV.D.tup.injEq, TV.D.obj.injEq, List.map_cons, List.map_nil, TV.cmpD, TV.subD, TV.intD, TV.inSD, TV.ninSD, TV.isND, TV.notND, TV.isBD, TV.divmodC, TV.absC, isiC', TV.len_str, TV.len_lst, TV.len_tup, TV.tru_bl, TV.tru_int, TV.tru_str, TV.tru_lst, TV.tru_tup, TV.add_int, TV.add_str, TV.add_lst, TV.add_tup, TV.mul_int, TV.mul_str, TV.ix_str, TV.ix_lst, TV.ix_tup, TV.count_str, TV.eq_str, TV.ne_str, TV.eq_int, TV.ne_int, TV.eq_lst, TV.ne_lst, TV.sgx, TV.vw_non, TV.vw_bl, TV.vw_int, TV.vw_str, TV.vw_tup, TV.vw_lst, TV.vw_fro, TV.vw_dct, TV.key_str, TV.key_int, false_or, or_false, List.length_nil, TV.ty_non, TV.ty_bl, TV.ty_int, TV.ty_str, TV.ty_tup, TV.ty_lst, TV.ty_dct, TV.tn_str, TV.tn_int, TV.tn_bool, TV.tn_list, TV.tn_tuple, TV.tn_dict, TV.isT, String.reduceBEq, Bool.and_false, Bool.or_false, Bool.false_and, Bool.and_true, Bool.true_or, Bool.or_true, and_assoc, TV.D.ty.injEq, reduceCtorEq, exists_const, exists_and_left, exists_and_right, if_true, if_false, Bool.not_true, Bool.not_false, Bool.false_eq_true, reduceIte, TV.wExt, TV.wPop, TV.wPopAt, TV.wChg, TV.wAny, TV.wAug, TV.wWhile, TV.kgetD, TV.kinD, TV.wLenSet, TV.wLenO, TV.wEqO, TV.wMakeF, TV.wMeth, TV.wFld, TV.wSetF, TV.sumC, TV.minC, TV.maxC, TV.lcmC, TV.isiO, TV.wLc2, TV.wSlT, TV.wIsiT, List.append_nil, TV.wEither, TV.wGet2, TV.wDict1, TV.wDictZip, TV.sumIC, TV.wiZip, TV.wCallL, TV.mulTD]
  refine ⟨rfl, dw, d, ins, gs, fd, rfl, hw, hd, le, by omega, hr, rfl, dw, ins, gs, b, rfl, hw, rh, few, b0, b1, ?_⟩
  simp only [TV.wSeq, TV.wIf, TV.wOr, TV.wNot, TV.wAnd, TV.wAndV, TV.wOrV, TV.wNotV, TV.wIfE, TV.wTru, TV.wCB, TV.wCons, TV.wVar, TV.wC, TV.wNil, TV.wTest, TV.wChain, TV.wRet, TV.wRetN, TV.wNext, TV.wSet, TV.wDrop, TV.wFrz, TV.wMut, TV.wDisp, TV.wTup, TV.wOp, TV.wCall, TV.wDget, TV.wDput, TV.wFor, TV.wLc, TV.wiL, TV.wiT, TV.wiS, TV.wiR1, TV.wiR2, TV.wiEnumS, TV.wiEnum, TV.wgName, TV.wgTup, TV.wgCons, TV.wgNil, TV.wPar, TV.wPar3, TV.wAsg, TV.wUn, TV.wBM, TV.wApp, TV.wSetI, TV.wListC, TV.wSlL, TV.wSlS, TV.wSlT, TV.wNo, TV.wPart, TV.wYes, TV.wRev, TV.wMelt, TV.wNever, TV.wipe0, TV.wDictM, TV.wDictF, TV.wDict0F, TV.wPairs, List.getElem?_cons_zero, List.getElem?_cons_succ, List.set_cons_zero, List.set_cons_succ, Option.some.injEq, exists_eq_left', exists_eq_left, List.cons.injEq, and_true, true_and, TV.D.str.injEq, TV.D.int.injEq, TV.D.bl.injEq, TV.D.lst.injEq, TV.D.tup.injEq, TV.D.obj.injEq, List.map_cons, List.map_nil, TV.cmpD, TV.subD, TV.intD, TV.inSD, TV.ninSD, TV.isND, TV.notND, TV.isBD, TV.divmodC, TV.absC, isiC', TV.len_str, TV.len_lst, TV.len_tup, TV.tru_bl, TV.tru_int, TV.tru_str, TV.tru_lst, TV.tru_tup, TV.add_int, TV.add_str, TV.add_lst, TV.add_tup, TV.mul_int, TV.mul_str, TV.ix_str, TV.ix_lst, TV.ix_tup, TV.count_str, TV.eq_str, TV.ne_str, TV.eq_int, TV.ne_int, TV.eq_lst, TV.ne_lst, TV.sgx, TV.vw_non, TV.vw_bl, TV.vw_int, TV.vw_str, TV.vw_tup, TV.vw_lst, TV.vw_fro, TV.vw_dct, TV.key_str, TV.key_int, false_or, or_false, List.length_nil, TV.ty_non, TV.ty_bl, TV.ty_int, TV.ty_str, TV.ty_tup, TV.ty_lst, TV.ty_dct, TV.tn_str, TV.tn_int, TV.tn_bool, TV.tn_list, TV.tn_tuple, TV.tn_dict, TV.isT, String.reduceBEq, Bool.and_false, Bool.or_false, Bool.false_and, Bool.and_true, Bool.true_or, Bool.or_true, and_assoc, TV.D.ty.injEq, reduceCtorEq, exists_const, exists_and_left, exists_and_right, if_true, if_false, Bool.not_true, Bool.not_false, Bool.false_eq_true, reduceIte, TV.wExt, TV.wPop, TV.wPopAt, TV.wChg, TV.wAny, TV.wAug, TV.wWhile, TV.kgetD, TV.kinD, TV.wLenSet, TV.wLenO, TV.wEqO, TV.wMakeF, TV.wMeth, TV.wFld, TV.wSetF, TV.sumC, TV.minC, TV.maxC, TV.lcmC, TV.isiO, TV.wLc2, TV.wSlT, TV.wIsiT, List.append_nil, TV.wEither, TV.wGet2, TV.wDict1, TV.wDictZip, TV.sumIC, TV.wiZip, TV.wCallL, TV.mulTD]
  refine ⟨fd.map rowD, hd, ins.map fun p => D.int (timesI p.2 b), .inl rfl, by rw [zipD_len, List.length_map]; omega, fun i acc M' => M' = M ∧ acc = ((fd.zip ins).take i).map fun z => D.bl (decide (lim z.2 b ≤ z.1.length)), ⟨rfl, rfl⟩, ?_, ?_⟩
  · rintro i e acc M' he ⟨rfl, rfl⟩
    obtain ⟨a, c, h1, h2, rfl⟩ := zipD_inv he
    obtain ⟨r, g1, rfl⟩ := map_get h1
    obtain ⟨q, g2, rfl⟩ := map_get h2
    refine ⟨hd, .inl rfl, _, rfl, rfl, _, _, rfl, _, _, rfl, rfl, len_tup.mpr ⟨_, rfl, _, rfl, rfl, ?_⟩⟩
    have nn := times_nn (rh q (List.mem_of_getElem? g2)) b0
    rw [List.take_add_one, (List.getElem?_zip_eq_some (z := (r, q))).mpr ⟨g1, g2⟩, List.length_map]
    have e : decide (timesI q.2 b ≤ (r.length : Int)) = decide (lim q b ≤ r.length) := decide_eq_decide.mpr (by unfold lim; omega)
    rw [e]
    simp
  · rintro acc M' ⟨rfl, rfl⟩
    rw [zipD_len, List.length_map, List.length_map, show min fd.length ins.length = (fd.zip ins).length by rw [List.length_zip], List.take_length]
    refine ⟨hd, .inl rfl, _, (fd.zip ins).map fun z => decide (lim z.2 b ≤ z.1.length), rfl, by show D.lst _ = _; rw [List.map_map]; rfl, ?_⟩
    dsimp only
    rw [List.all_map]
    exact hk
/-! inputs -/
def outI (ins : List (Str × Str)) (now : Nat) : List (Nat × Nat) := (takL ins (now + 1 : Nat) ins.length).map fun i => (i, match ins[i]? with | some p => tN p.2 now | none => 0)
def inputsN (ins : List (Str × Str)) (b : Nat) : List (Nat × Nat) := (List.range b).flatMap (outI ins)
def pairD (p : Nat × Nat) : D := .tup [.int p.1, .int p.2]
theorem inputs_succ (ins : List (Str × Str)) (b : Nat) : inputsN ins (b + 1) = inputsN ins b ++ outI ins b := by unfold inputsN; rw [List.range_succ, List.flatMap_append]; simp
theorem takL_len (ins : List (Str × Str)) (b : Int) (n : Nat) : (takL ins b n).length ≤ n := by
  have := List.length_filter_le (fun i => match ins[i]? with | some p => takesB p.2 b | none => false) (List.range n)
  rwa [List.length_range] at this
theorem inputs_len {ins : List (Str × Str)} (few : ins.length ≤ 3) : ∀ b, (inputsN ins b).length ≤ 3 * b
  | 0 => by simp [inputsN]
  | b + 1 => by
    rw [inputs_succ, List.length_append]
    have := inputs_len few b
    have t := takL_len ins (b + 1 : Nat) ins.length
    have : (outI ins b).length ≤ 3 := by unfold outI; rw [List.length_map]; omega
    omega
theorem takes_sg {z : Str} (i : Nat) : takesB z ((i + 1 : Nat) : Int) = sg z ((i : Int) % z.length) := by
  unfold takesB
  rw [decide_eq_true (by omega), Bool.true_and, show ((i + 1 : Nat) : Int) - 1 = i by omega]
def sp_inputs (C : Addr) : DSp := fun ds M _ k => ds.length = 2 ∧ ∃ (ins : List (Str × Str)) (gs : List Gt) (b : Nat), ds = [.ins C (webOf ins gs), .int b] ∧ (∀ p ∈ ins, okRh p.2) ∧ ins.length ≤ 3 ∧ b ≤ 600 ∧ newL M ((inputsN ins b).map pairD) k
theorem ok_inputs (T : Tx w K mg) : FnG P w K mg base CX0 3 T.f_inputs T.e_inputs ["web", "beat"] (rSp K (sp_inputs T.C_Web)) := by
  refine fnT T.d_inputs.fn sc_inputs (fun ds M x k h => h.1) (by decide) (fun cdv A outer s H E rm => ?_) (fun ds M x k h => h)
  refine ⟨_, (yss_cons (ys_set (i := 2) sc_inputs.nd rfl (by first | exact Or.inl rfl | exact Or.inr rfl) (xl_mut (xl_lst xa_nil)))
      (yss_cons (ys_for PassesOwn.never rfl (xi_range2 (by rfl) T.m_range (xa_cons xint (xa_cons (xe_op op_addD l_addD (xv 1) xint) xa_nil))) (xg_name (i := 3) sc_inputs.nd rfl (by first | exact Or.inl rfl | exact Or.inr rfl)) (yss_cons (ys_set (i := 4) sc_inputs.nd rfl (by first | exact Or.inl rfl | exact Or.inr rfl) (xcall (ok_times_by T) (rm.mono (by decide)) (by rfl) T.d_times_by.gl T.d_times_by.fn.kp T.d_times_by.bi pass0 (xa_cons (xv 0) (xa_cons (xv 3) xa_nil))))
      (yss_one (ys_expr (xe_extend (xv 2) (xl_frz (xl_lc (own := [("inlet", 5)]) (g := gName 5) rfl sc_inputs.nd (xi_list (xcall (ok_takers T) (rm.mono (by decide)) (by rfl) T.d_takers.gl T.d_takers.fn.kp T.d_takers.bi pass0 (xa_cons (xv 0) (xa_cons (xv 3) xa_nil)))) (blkOk_by (N := ["web", "beat", "found", "now", "times", "inlet"]) (sc := defScope s_inputs) (by decide +kernel)) (tg_name (by decide)) (fun _ _ _ _ _ => pg_name (i := 5) sc_inputs.nd rfl (by first | exact Or.inl rfl | exact Or.inr rfl)) (fun _ _ _ _ _ => xts_nil) (fun _ _ _ _ _ => (xe_tup (xa_cons (xv 5) (xa_cons (xe_op op_sub l_subD (xe_ix (xv 4) (xv 5) (fun _ _ => rfl)) xint) xa_nil)))))))))))
      (yss_one (ys_ret (xe_either (xmelt 2) (xv 2)))))), ?_⟩
  intro ds M k h
  obtain ⟨-, ins, gs, b, rfl, rh, few, b6, hk⟩ := h
  rw [show start0 ["web", "beat", "found", "now", "times", "inlet"] [D.ins T.C_Web (webOf ins gs), D.int b] = [some (.ins T.C_Web (webOf ins gs)), some (.int b), none, none, none, none] from rfl]
  simp only [TV.wSeq, TV.wIf, TV.wOr, TV.wNot, TV.wAnd, TV.wAndV, TV.wOrV, TV.wNotV, TV.wIfE, TV.wTru, TV.wCB, TV.wCons, TV.wVar, TV.wC, TV.wNil, TV.wTest, TV.wChain, TV.wRet, TV.wRetN, TV.wNext, TV.wSet, TV.wDrop, TV.wFrz, TV.wMut, TV.wDisp, TV.wTup, TV.wOp, TV.wCall, TV.wDget, TV.wDput, TV.wFor, TV.wLc, TV.wiL, TV.wiT, TV.wiS, TV.wiR1, TV.wiR2, TV.wiEnumS, TV.wiEnum, TV.wgName, TV.wgTup, TV.wgCons, TV.wgNil, TV.wPar, TV.wPar3, TV.wAsg, TV.wUn, TV.wBM, TV.wApp, TV.wSetI, TV.wListC, TV.wSlL, TV.wSlS, TV.wSlT, TV.wNo, TV.wPart, TV.wYes, TV.wRev, TV.wMelt, TV.wNever, TV.wipe0, TV.wDictM, TV.wDictF, TV.wDict0F, TV.wPairs, List.getElem?_cons_zero, List.getElem?_cons_succ, List.set_cons_zero, List.set_cons_succ, Option.some.injEq, exists_eq_left', exists_eq_left, List.cons.injEq, and_true, true_and, TV.D.str.injEq, TV.D.int.injEq, TV.D.bl.injEq, TV.D.lst.injEq, TV.D.tup.injEq, TV.D.obj.injEq, List.map_cons, List.map_nil, TV.cmpD, TV.subD, TV.intD, TV.inSD, TV.ninSD, TV.isND, TV.notND, TV.isBD, TV.divmodC, TV.absC, isiC', TV.len_str, TV.len_lst, TV.len_tup, TV.tru_bl, TV.tru_int, TV.tru_str, TV.tru_lst, TV.tru_tup, TV.add_int, TV.add_str, TV.add_lst, TV.add_tup, TV.mul_int, TV.mul_str, TV.ix_str, TV.ix_lst, TV.ix_tup, TV.count_str, TV.eq_str, TV.ne_str, TV.eq_int, TV.ne_int, TV.eq_lst, TV.ne_lst, TV.sgx, TV.vw_non, TV.vw_bl, TV.vw_int, TV.vw_str, TV.vw_tup, TV.vw_lst, TV.vw_fro, TV.vw_dct, TV.key_str, TV.key_int, false_or, or_false, List.length_nil, TV.ty_non, TV.ty_bl, TV.ty_int, TV.ty_str, TV.ty_tup, TV.ty_lst, TV.ty_dct, TV.tn_str, TV.tn_int, TV.tn_bool, TV.tn_list, TV.tn_tuple, TV.tn_dict, TV.isT, String.reduceBEq, Bool.and_false, Bool.or_false, Bool.false_and, Bool.and_true, Bool.true_or, Bool.or_true, and_assoc, TV.D.ty.injEq, reduceCtorEq, exists_const, exists_and_left, exists_and_right, if_true, if_false, Bool.not_true, Bool.not_false, Bool.false_eq_true, reduceIte, TV.wExt, TV.wPop, TV.wPopAt, TV.wChg, TV.wAny, TV.wAug, TV.wWhile, TV.kgetD, TV.kinD, TV.wLenSet, TV.wLenO, TV.wEqO, TV.wMakeF, TV.wMeth, TV.wFld, TV.wSetF, TV.sumC, TV.minC, TV.maxC, TV.lcmC, TV.isiO, TV.wLc2, TV.wSlT, TV.wIsiT, List.append_nil, TV.wEither, TV.wGet2, TV.wDict1, TV.wDictZip, TV.sumIC, TV.wiZip, TV.wCallL, TV.mulTD]
  refine ⟨by decide, fun q hq => ⟨by decide, by decide, by omega, by omega, fun i ρ' M' => ∃ d3 d4 d5, ρ' = [some (.ins T.C_Web (webOf ins gs)), some (.int b), some (.obj q), d3, d4, d5] ∧ M' = updM M q (.lst ((inputsN ins i).map pairD)), ⟨none, none, none, rfl, rfl⟩, ?_, ?_⟩⟩
  · rintro i e ρ' M' he ⟨d3, d4, d5, rfl, rfl⟩
    obtain ⟨hi, rfl⟩ := rng_get he
    simp only [TV.wSeq, TV.wIf, TV.wOr, TV.wNot, TV.wAnd, TV.wAndV, TV.wOrV, TV.wNotV, TV.wIfE, TV.wTru, TV.wCB, TV.wCons, TV.wVar, TV.wC, TV.wNil, TV.wTest, TV.wChain, TV.wRet, TV.wRetN, TV.wNext, TV.wSet, TV.wDrop, TV.wFrz, TV.wMut, TV.wDisp, TV.wTup, TV.wOp, TV.wCall, TV.wDget, TV.wDput, TV.wFor, TV.wLc, TV.wiL, TV.wiT, TV.wiS, TV.wiR1, TV.wiR2, TV.wiEnumS, TV.wiEnum, TV.wgName, TV.wgTup, TV.wgCons, TV.wgNil, TV.wPar, TV.wPar3, TV.wAsg, TV.wUn, TV.wBM, TV.wApp, TV.wSetI, TV.wListC, TV.wSlL, TV.wSlS, TV.wSlT, TV.wNo, TV.wPart, TV.wYes, TV.wRev, TV.wMelt, TV.wNever, TV.wipe0, TV.wDictM, TV.wDictF, TV.wDict0F, TV.wPairs, List.getElem?_cons_zero, List.getElem?_cons_succ, List.set_cons_zero, List.set_cons_succ, Option.some.injEq, exists_eq_left', exists_eq_left, List.cons.injEq, and_true, true_and, TV.D.str.injEq, TV.D.int.injEq, TV.D.bl.injEq, TV.D.lst.injEq, TV.D.tup.injEq, TV.D.obj.injEq, List.map_cons, List.map_nil, TV.cmpD, TV.subD, TV.intD, TV.inSD, TV.ninSD, TV.isND, TV.notND, TV.isBD, TV.divmodC, TV.absC, isiC', TV.len_str, TV.len_lst, TV.len_tup, TV.tru_bl, TV.tru_int, TV.tru_str, TV.tru_lst, TV.tru_tup, TV.add_int, TV.add_str, TV.add_lst, TV.add_tup, TV.mul_int, TV.mul_str, TV.ix_str, TV.ix_lst, TV.ix_tup, TV.count_str, TV.eq_str, TV.ne_str, TV.eq_int, TV.ne_int, TV.eq_lst, TV.ne_lst, TV.sgx, TV.vw_non, TV.vw_bl, TV.vw_int, TV.vw_str, TV.vw_tup, TV.vw_lst, TV.vw_fro, TV.vw_dct, TV.key_str, TV.key_int, false_or, or_false, List.length_nil, TV.ty_non, TV.ty_bl, TV.ty_int, TV.ty_str, TV.ty_tup, TV.ty_lst, TV.ty_dct, TV.tn_str, TV.tn_int, TV.tn_bool, TV.tn_list, TV.tn_tuple, TV.tn_dict, TV.isT, String.reduceBEq, Bool.and_false, Bool.or_false, Bool.false_and, Bool.and_true, Bool.true_or, Bool.or_true, and_assoc, TV.D.ty.injEq, reduceCtorEq, exists_const, exists_and_left, exists_and_right, if_true, if_false, Bool.not_true, Bool.not_false, Bool.false_eq_true, reduceIte, TV.wExt, TV.wPop, TV.wPopAt, TV.wChg, TV.wAny, TV.wAug, TV.wWhile, TV.kgetD, TV.kinD, TV.wLenSet, TV.wLenO, TV.wEqO, TV.wMakeF, TV.wMeth, TV.wFld, TV.wSetF, TV.sumC, TV.minC, TV.maxC, TV.lcmC, TV.isiO, TV.wLc2, TV.wSlT, TV.wIsiT, List.append_nil, TV.wEither, TV.wGet2, TV.wDict1, TV.wDictZip, TV.sumIC, TV.wiZip, TV.wCallL, TV.mulTD]
    have i1 : (1 : Int) + (i : Int) = ((i + 1 : Nat) : Int) := by omega
    rw [i1]
    refine ⟨rfl, _, ins, gs, _, rfl, rfl, rh, few, by omega, small_lt (by omega), ⟨_, updM_at⟩, rfl, _, ins, gs, _, rfl, rfl, rh, few, ?_⟩
    simp only [TV.wSeq, TV.wIf, TV.wOr, TV.wNot, TV.wAnd, TV.wAndV, TV.wOrV, TV.wNotV, TV.wIfE, TV.wTru, TV.wCB, TV.wCons, TV.wVar, TV.wC, TV.wNil, TV.wTest, TV.wChain, TV.wRet, TV.wRetN, TV.wNext, TV.wSet, TV.wDrop, TV.wFrz, TV.wMut, TV.wDisp, TV.wTup, TV.wOp, TV.wCall, TV.wDget, TV.wDput, TV.wFor, TV.wLc, TV.wiL, TV.wiT, TV.wiS, TV.wiR1, TV.wiR2, TV.wiEnumS, TV.wiEnum, TV.wgName, TV.wgTup, TV.wgCons, TV.wgNil, TV.wPar, TV.wPar3, TV.wAsg, TV.wUn, TV.wBM, TV.wApp, TV.wSetI, TV.wListC, TV.wSlL, TV.wSlS, TV.wSlT, TV.wNo, TV.wPart, TV.wYes, TV.wRev, TV.wMelt, TV.wNever, TV.wipe0, TV.wDictM, TV.wDictF, TV.wDict0F, TV.wPairs, List.getElem?_cons_zero, List.getElem?_cons_succ, List.set_cons_zero, List.set_cons_succ, Option.some.injEq, exists_eq_left', exists_eq_left, List.cons.injEq, and_true, true_and, TV.D.str.injEq, TV.D.int.injEq, TV.D.bl.injEq, TV.D.lst.injEq, TV.D.tup.injEq, TV.D.obj.injEq, List.map_cons, List.map_nil, TV.cmpD, TV.subD, TV.intD, TV.inSD, TV.ninSD, TV.isND, TV.notND, TV.isBD, TV.divmodC, TV.absC, isiC', TV.len_str, TV.len_lst, TV.len_tup, TV.tru_bl, TV.tru_int, TV.tru_str, TV.tru_lst, TV.tru_tup, TV.add_int, TV.add_str, TV.add_lst, TV.add_tup, TV.mul_int, TV.mul_str, TV.ix_str, TV.ix_lst, TV.ix_tup, TV.count_str, TV.eq_str, TV.ne_str, TV.eq_int, TV.ne_int, TV.eq_lst, TV.ne_lst, TV.sgx, TV.vw_non, TV.vw_bl, TV.vw_int, TV.vw_str, TV.vw_tup, TV.vw_lst, TV.vw_fro, TV.vw_dct, TV.key_str, TV.key_int, false_or, or_false, List.length_nil, TV.ty_non, TV.ty_bl, TV.ty_int, TV.ty_str, TV.ty_tup, TV.ty_lst, TV.ty_dct, TV.tn_str, TV.tn_int, TV.tn_bool, TV.tn_list, TV.tn_tuple, TV.tn_dict, TV.isT, String.reduceBEq, Bool.and_false, Bool.or_false, Bool.false_and, Bool.and_true, Bool.true_or, Bool.or_true, and_assoc, TV.D.ty.injEq, reduceCtorEq, exists_const, exists_and_left, exists_and_right, if_true, if_false, Bool.not_true, Bool.not_false, Bool.false_eq_true, reduceIte, TV.wExt, TV.wPop, TV.wPopAt, TV.wChg, TV.wAny, TV.wAug, TV.wWhile, TV.kgetD, TV.kinD, TV.wLenSet, TV.wLenO, TV.wEqO, TV.wMakeF, TV.wMeth, TV.wFld, TV.wSetF, TV.sumC, TV.minC, TV.maxC, TV.lcmC, TV.isiO, TV.wLc2, TV.wSlT, TV.wIsiT, List.append_nil, TV.wEither, TV.wGet2, TV.wDict1, TV.wDictZip, TV.sumIC, TV.wiZip, TV.wCallL, TV.mulTD]
    have tl := takL_len ins (i + 1 : Nat) ins.length
    refine ⟨by rw [List.length_map]; omega, fun j acc M'' => M'' = updM M q (.lst ((inputsN ins i).map pairD)) ∧ acc = ((outI ins i).take j).map pairD, ⟨rfl, rfl⟩, ?_, ?_⟩
    · rintro j d acc M'' hj ⟨rfl, rfl⟩
      obtain ⟨m, h2, rfl⟩ := map_get hj
      obtain ⟨m1, m2⟩ := List.mem_filter.mp (List.mem_of_getElem? h2)
      have m1 := List.mem_range.mp m1
      have em : ins[m]? = some ins[m] := List.getElem?_eq_getElem m1
      rw [em] at m2
      have tk : takesB ins[m].2 (i + 1 : Nat) = true := m2
      have r := rh _ (List.getElem_mem m1)
      have tt : timesI ins[m].2 ((i + 1 : Nat) : Int) - 1 = tN ins[m].2 i := by
        rw [times_eq r, tN_succ, ← takes_sg, tk, if_pos rfl]
        omega
      obtain ⟨c, e1, e2⟩ := atI_in (l := ins.map fun p => D.int (timesI p.2 ((i + 1 : Nat) : Int))) (i := (m : Int)) (by omega) (by rw [List.length_map]; omega)
      rw [Int.toNat_natCast, List.getElem?_map, em] at e1
      have e1 : D.int (timesI ins[m].2 ((i + 1 : Nat) : Int)) = c := Option.some.inj e1
      subst e1
      have eo : (outI ins i)[j]? = some (m, tN ins[m].2 i) := by
        unfold outI
        rw [List.getElem?_map, h2]
        simp [em]
      refine ix_lst.mpr ⟨_, e2, _, rfl, (show 2 ≤ 100000 by decide), rfl, ?_⟩
      rw [tt, List.take_add_one, eo]
      simp [pairD]
    · rintro acc M'' ⟨rfl, rfl⟩
      have ol : (outI ins i).length = (takL ins (i + 1 : Nat) ins.length).length := by unfold outI; rw [List.length_map]
      have il := inputs_len few i
      rw [show List.take ((takL ins (i + 1 : Nat) ins.length).map fun i : Nat => D.int (i : Int)).length (outI ins i) = outI ins i from List.take_of_length_le (by rw [List.length_map, ol]; exact Nat.le_refl _)]
      refine ⟨_, updM_at, by rw [List.length_map, List.length_map, ol]; omega, ?_⟩
      rw [updM_updM, ← List.map_append, inputs_succ]
  · rintro ρ' M' ⟨d3, d4, d5, rfl, rfl⟩
    rw [rng_len, show ((b : Int) + 1 - 1).toNat = b by omega]
    simp only [TV.wSeq, TV.wIf, TV.wOr, TV.wNot, TV.wAnd, TV.wAndV, TV.wOrV, TV.wNotV, TV.wIfE, TV.wTru, TV.wCB, TV.wCons, TV.wVar, TV.wC, TV.wNil, TV.wTest, TV.wChain, TV.wRet, TV.wRetN, TV.wNext, TV.wSet, TV.wDrop, TV.wFrz, TV.wMut, TV.wDisp, TV.wTup, TV.wOp, TV.wCall, TV.wDget, TV.wDput, TV.wFor, TV.wLc, TV.wiL, TV.wiT, TV.wiS, TV.wiR1, TV.wiR2, TV.wiEnumS, TV.wiEnum, TV.wgName, TV.wgTup, TV.wgCons, TV.wgNil, TV.wPar, TV.wPar3, TV.wAsg, TV.wUn, TV.wBM, TV.wApp, TV.wSetI, TV.wListC, TV.wSlL, TV.wSlS, TV.wSlT, TV.wNo, TV.wPart, TV.wYes, TV.wRev, TV.wMelt, TV.wNever, TV.wipe0, TV.wDictM, TV.wDictF, TV.wDict0F, TV.wPairs, List.getElem?_cons_zero, List.getElem?_cons_succ, List.set_cons_zero, List.set_cons_succ, Option.some.injEq, exists_eq_left', exists_eq_left, List.cons.injEq, and_true, true_and, TV.D.str.injEq, TV.D.int.injEq, TV.D.bl.injEq, TV.D.lst.injEq, TV.D.tup.injEq, TV.D.obj.injEq, List.map_cons, List.map_nil, TV.cmpD, TV.subD, TV.intD, TV.inSD, TV.ninSD, TV.isND, TV.notND, TV.isBD, TV.divmodC, TV.absC, isiC', TV.len_str, TV.len_lst, TV.len_tup, TV.tru_bl, TV.tru_int, TV.tru_str, TV.tru_lst, TV.tru_tup, TV.add_int, TV.add_str, TV.add_lst, TV.add_tup, TV.mul_int, TV.mul_str, TV.ix_str, TV.ix_lst, TV.ix_tup, TV.count_str, TV.eq_str, TV.ne_str, TV.eq_int, TV.ne_int, TV.eq_lst, TV.ne_lst, TV.sgx, TV.vw_non, TV.vw_bl, TV.vw_int, TV.vw_str, TV.vw_tup, TV.vw_lst, TV.vw_fro, TV.vw_dct, TV.key_str, TV.key_int, false_or, or_false, List.length_nil, TV.ty_non, TV.ty_bl, TV.ty_int, TV.ty_str, TV.ty_tup, TV.ty_lst, TV.ty_dct, TV.tn_str, TV.tn_int, TV.tn_bool, TV.tn_list, TV.tn_tuple, TV.tn_dict, TV.isT, String.reduceBEq, Bool.and_false, Bool.or_false, Bool.false_and, Bool.and_true, Bool.true_or, Bool.or_true, and_assoc, TV.D.ty.injEq, reduceCtorEq, exists_const, exists_and_left, exists_and_right, if_true, if_false, Bool.not_true, Bool.not_false, Bool.false_eq_true, reduceIte, TV.wExt, TV.wPop, TV.wPopAt, TV.wChg, TV.wAny, TV.wAug, TV.wWhile, TV.kgetD, TV.kinD, TV.wLenSet, TV.wLenO, TV.wEqO, TV.wMakeF, TV.wMeth, TV.wFld, TV.wSetF, TV.sumC, TV.minC, TV.maxC, TV.lcmC, TV.isiO, TV.wLc2, TV.wSlT, TV.wIsiT, List.append_nil, TV.wEither, TV.wGet2, TV.wDict1, TV.wDictZip, TV.sumIC, TV.wiZip, TV.wCallL, TV.mulTD]
    rcases hk with hk | hk
    · refine .inl (.inl ⟨_, updM_at, ?_⟩)
      rw [del_upd hq]
      exact hk
    · exact .inr (hk q hq)
end
end K08

set_option Elab.async false
set_option linter.all false
set_option maxRecDepth 100000
set_option maxHeartbeats 2000000
namespace K08
open PySem PySem.Spec PyProof.Rows L2 TV
section
variable {P : Program} {w : World} {K : PySem.W.Frag} {mg : Str → Option Value} {base : Heap}
theorem st_new {M0 : MS} {p g : Addr} {es : List (Key × D)} {m : MO} (gp : g ≠ p) : updM (updM M0 p (.dct es)) g m = updM (updM M0 g m) p (.dct es) := updM_comm (fun e => gp e.symm)
def drawn (r : List Int) : Prop := r.length ≤ 60 ∧ ∀ i ∈ r, okN i
theorem draws {M0 : MS} {p : Addr} {own : Int} (o0 : 1 ≤ own) (o1 : own ≤ 1000000000000) {n : Nat} {es : List (Key × D)} {m : Nat} (hp : penD n es) (hn : n < 800000) (hm : m ≤ 60) {Q : List D → MS → Prop}
    (hq : ∀ (r : List Int) (es' : List (Key × D)), drawn r → penD (n + 60) es' → Q (r.map D.int) (updM M0 p (.dct es'))) :
    ∃ Pv : Nat → List D → MS → Prop, Pv 0 [] (updM M0 p (.dct es)) ∧ (∀ (i : Nat) (d : D) (acc : List D) (M' : MS), (rng 0 m)[i]? = some d → Pv i acc M' → CMulW 2 own ∧ sp__law_draw [D.obj p, D.int (2 * own + 1)] M' (fun _ _ _ => False) fun d M1 => ∃ i_1, d = D.int i_1 ∧ Pv (i + 1) (acc ++ [D.int (i_1 - own)]) M1) ∧
      ∀ (acc : List D) (M' : MS), Pv (rng 0 m).length acc M' → Q acc M' := by
  refine ⟨fun i acc M' => ∃ (r : List Int) (es' : List (Key × D)), r.length = i ∧ (∀ x ∈ r, okN x) ∧ penD (n + i) es' ∧ acc = r.map D.int ∧ M' = updM M0 p (.dct es'), ⟨[], es, rfl, by simp, hp, rfl, rfl⟩, ?_, ?_⟩
  · rintro i d acc M' he ⟨r, es', hl, hr, p1, rfl, rfl⟩
    obtain ⟨hi, -⟩ := rng_get he
    refine ⟨mulW (by decide) (small_lt (by decide)) (by omega) (Int.lt_trans (by omega) big_lt), use_draw p1 (by omega) (by omega) (Int.lt_trans (by omega) big_lt) fun v es2 v0 v1 p2 => ⟨_, rfl, r ++ [v - own], es2, by simp [hl], ?_, p2, by simp, rfl⟩⟩
    intro x hx
    rcases List.mem_append.mp hx with hx | hx
    · exact hr x hx
    · rw [List.mem_singleton.mp hx]; exact ⟨by omega, by omega⟩
  · rintro acc M' ⟨r, es', hl, hr, p1, rfl, rfl⟩
    rw [rng_len] at hl p1
    exact hq r es' ⟨by omega, hr⟩ (p1.up (by omega))
def sp__law_feed : DSp := fun ds M _ k => ds.length = 4 ∧ ∃ (p : Addr) (ins : List (Str × Str)) (beats : Int) (es : List (Key × D)) (n : Nat), ds = [.obj p, .lst (ins.map ilD), .int beats, .bl true] ∧ M p = some (.dct es) ∧ penD n es ∧ n < 700000 ∧ ins.length ≤ 3 ∧ (∀ c ∈ ins, okRh c.2) ∧ 0 ≤ beats ∧ beats ≤ 60 ∧
  ∀ (fd : List (List Int)) (es2 : List (Key × D)), fd.length = ins.length → (∀ r ∈ fd, drawn r) → penD (n + 200) es2 → k (.tup (fd.map rowD)) (updM M p (.dct es2))
theorem ok__law_feed (T : Tx w K mg) : FnG P w K mg base CX0 3 T.f__law_feed T.e__law_feed ["_law_pen_here", "_law_inlets", "_law_beats", "_law_ends"] (rSp K sp__law_feed) := by
  refine fnTW T.d__law_feed.fn sc__law_feed (fun ds M x k h => h.1) (by decide) (fun cdv A outer s H E rm => ?_) (fun ds M x k h => h)
  refine ⟨_, (yss_cons (ys_asg (xe_tup (xa_cons (xcall (ok__law_pick T) (rm.mono (by decide)) (by rfl) T.d__law_pick.gl T.d__law_pick.fn.kp T.d__law_pick.bi pass0 (xa_cons (xv 0) (xa_cons (xl_frz (xl_lst (xa_cons xint (xa_cons xint (xa_cons xint (xa_cons (xe_op op_pow l_intD xint xint) xa_nil)))))) xa_nil))) (xa_cons (xl_mut (xl_lst xa_nil)) xa_nil))) (xg_tup rfl (xgs_cons (xg_name (i := 4) sc__law_feed.nd rfl (by first | exact Or.inl rfl | exact Or.inr rfl)) (xgs_cons (xg_name (i := 5) sc__law_feed.nd rfl (by first | exact Or.inl rfl | exact Or.inr rfl)) xgs_nil))))
      (yss_cons (ys_for PassesOwn.never rfl (xi_list (xv 1)) (xg_tup rfl (xgs_cons (xg_name (i := 6) sc__law_feed.nd rfl (by first | exact Or.inl rfl | exact Or.inr rfl)) (xgs_cons (xg_name (i := 7) sc__law_feed.nd rfl (by first | exact Or.inl rfl | exact Or.inr rfl)) xgs_nil))) (yss_cons (ys_set (i := 8) sc__law_feed.nd rfl (by first | exact Or.inl rfl | exact Or.inr rfl) (xe_callB call_lenD' l_lenC (by rfl) T.m_len (by decide +kernel) (xa_cons (xl_frz (xl_lc (own := [("_law_beat", 9)]) (g := gName 9) rfl sc__law_feed.nd (xi_range1 (by rfl) T.m_range (xa_cons (xv 2) xa_nil)) (blkOk_by (N := ["_law_pen_here", "_law_inlets", "_law_beats", "_law_ends", "_law_most_own", "_law_found", "_law_lane", "_law_rhythm_here", "_law_many", "_law_beat", "_law_k"]) (sc := defScope s__law_feed) (by decide +kernel)) (tg_name (by decide)) (fun _ _ _ _ _ => pg_name (i := 9) sc__law_feed.nd rfl (by first | exact Or.inl rfl | exact Or.inr rfl)) (fun _ _ _ _ _ => xts_one (xt_cmp (op_eqE rm.u64) l_eqE (xe_ix (xv 7) (xe_op op_mod l_intD (xv 9) (xe_callB call_lenD' l_lenC (by rfl) T.m_len (by decide +kernel) (xa_cons (xv 7) xa_nil))) (fun _ _ => rfl)) xstr (nomark _))) (fun _ _ _ _ _ => (xv 9)))) xa_nil)))
      (yss_cons (ys_if (PW.pt (xw_and (xt_tru (xv 3)) (xw_and1 (xt_cmp (op_eqE rm.u64) l_eqE (xcall (ok__law_draw T) (rm.mono (by decide)) (by rfl) T.d__law_draw.gl T.d__law_draw.fn.kp T.d__law_draw.bi pass0 (xa_cons (xv 0) (xa_cons xint xa_nil))) xint (nomark _))))) (yss_one (ys_set (i := 8) sc__law_feed.nd rfl (by first | exact Or.inl rfl | exact Or.inr rfl) (xcall (ok__law_draw T) (rm.mono (by decide)) (by rfl) T.d__law_draw.gl T.d__law_draw.fn.kp T.d__law_draw.bi pass0 (xa_cons (xv 0) (xa_cons (xe_op op_addD l_addD (xv 8) xint) xa_nil))))) yss_nil)
      (yss_one (ys_expr (xe_append (xv 5) (xe_callTy call_tuple_of l_tupleC (by rfl) T.m_tuple (by decide +kernel) (xa_cons (xl_frz (xl_lc (own := [("_law_k", 10)]) (g := gName 10) rfl sc__law_feed.nd (xi_range1 (by rfl) T.m_range (xa_cons (xv 8) xa_nil)) (blkOk_by (N := ["_law_pen_here", "_law_inlets", "_law_beats", "_law_ends", "_law_most_own", "_law_found", "_law_lane", "_law_rhythm_here", "_law_many", "_law_beat", "_law_k"]) (sc := defScope s__law_feed) (by decide +kernel)) (tg_name (by decide)) (fun _ _ _ _ _ => pg_name (i := 10) sc__law_feed.nd rfl (by first | exact Or.inl rfl | exact Or.inr rfl)) (fun _ _ _ _ _ => xts_nil) (fun _ _ _ _ _ => (xe_op op_sub l_subD (xcall (ok__law_draw T) (rm.mono (by decide)) (by rfl) T.d__law_draw.gl T.d__law_draw.fn.kp T.d__law_draw.bi pass0 (xa_cons (xv 0) (xa_cons (xe_op op_addD l_addD (xe_op op_mulD l_mulD xint (xv 4)) xint) xa_nil))) (xv 4))))) xa_nil))))))))
      (yss_one (ys_ret (xe_callTy call_tuple_of l_tupleC (by rfl) T.m_tuple (by decide +kernel) (xa_cons (xv 5) xa_nil)))))), ?_⟩
  intro ds M k h
  obtain ⟨-, p, ins, beats, es, n, rfl, hM, hp, hn, few, rh, b0, b1, hk⟩ := h
  rw [show start0 ["_law_pen_here", "_law_inlets", "_law_beats", "_law_ends", "_law_most_own", "_law_found", "_law_lane", "_law_rhythm_here", "_law_many", "_law_beat", "_law_k"] [D.obj p, D.lst (ins.map ilD), D.int beats, D.bl true] = [some (.obj p), some (.lst (ins.map ilD)), some (.int beats), some (.bl true), none, none, none, none, none, none, none] from rfl]
  obtain ⟨M0, rfl⟩ : ∃ M0, M = updM M0 p (.dct es) := ⟨M, (updM_self hM).symm⟩
  simp only [updM_updM] at hk
  simp only [TV.wSeq, TV.wIf, TV.wOr, TV.wNot, TV.wAnd, TV.wAndV, TV.wOrV, TV.wNotV, TV.wIfE, TV.wTru, TV.wCB, TV.wCons, TV.wVar, TV.wC, TV.wNil, TV.wTest, TV.wChain, TV.wRet, TV.wRetN, TV.wNext, TV.wSet, TV.wDrop, TV.wFrz, TV.wMut, TV.wDisp, TV.wTup, TV.wOp, TV.wCall, TV.wDget, TV.wDput, TV.wFor, TV.wLc, TV.wiL, TV.wiT, TV.wiS, TV.wiR1, TV.wiR2, TV.wiEnumS, TV.wiEnum, TV.wgName, TV.wgTup, TV.wgCons, TV.wgNil, TV.wPar, TV.wPar3, TV.wAsg, TV.wUn, TV.wBM, TV.wApp, TV.wSetI, TV.wListC, TV.wSlL, TV.wSlS, TV.wSlT, TV.wNo, TV.wPart, TV.wYes, TV.wRev, TV.wMelt, TV.wNever, TV.wipe0, TV.wDictM, TV.wDictF, TV.wDict0F, TV.wPairs, List.getElem?_cons_zero, List.getElem?_cons_succ, List.set_cons_zero, List.set_cons_succ, Option.some.injEq, exists_eq_left', exists_eq_left, List.cons.injEq, and_true, true_and, TV.D.str.injEq, TV.D.int.injEq, TV.D.bl.injEq, TV.D.lst.injEq, TV.D.tup.injEq, TV.D.obj.injEq, List.map_cons, List.map_nil, TV.cmpD, TV.subD, TV.intD, TV.inSD, TV.ninSD, TV.isND, TV.notND, TV.isBD, TV.divmodC, TV.absC, isiC', TV.len_str, TV.len_lst, TV.len_tup, TV.tru_bl, TV.tru_int, TV.tru_str, TV.tru_lst, TV.tru_tup, TV.add_int, TV.add_str, TV.add_lst, TV.add_tup, TV.mul_int, TV.mul_str, TV.ix_str, TV.ix_lst, TV.ix_tup, TV.count_str, TV.eq_str, TV.ne_str, TV.eq_int, TV.ne_int, TV.eq_lst, TV.ne_lst, TV.sgx, TV.vw_non, TV.vw_bl, TV.vw_int, TV.vw_str, TV.vw_tup, TV.vw_lst, TV.vw_fro, TV.vw_dct, TV.key_str, TV.key_int, false_or, or_false, List.length_nil, TV.ty_non, TV.ty_bl, TV.ty_int, TV.ty_str, TV.ty_tup, TV.ty_lst, TV.ty_dct, TV.tn_str, TV.tn_int, TV.tn_bool, TV.tn_list, TV.tn_tuple, TV.tn_dict, TV.isT, String.reduceBEq, Bool.and_false, Bool.or_false, Bool.false_and, Bool.and_true, Bool.true_or, Bool.or_true, and_assoc, TV.D.ty.injEq, reduceCtorEq, exists_const, exists_and_left, exists_and_right, if_true, if_false, Bool.not_true, Bool.not_false, Bool.false_eq_true, reduceIte, TV.wExt, TV.wPop, TV.wPopAt, TV.wChg, TV.wAny, TV.wAug, TV.wWhile, TV.kgetD, TV.kinD, TV.wLenSet, TV.wLenO, TV.wEqO, TV.wMakeF, TV.wMeth, TV.wFld, TV.wSetF, TV.sumC, TV.minC, TV.maxC, TV.lcmC, TV.isiO, TV.wLc2, TV.wSlT, TV.wIsiT, List.append_nil, TV.wEither, TV.wGet2, TV.wDict1, TV.wDictZip, TV.sumIC, TV.wiZip, TV.wCallL, TV.mulTD]
  refine ⟨⟨by decide, by decide, by decide⟩, by decide, use_pick hp (by omega) rfl (by decide) (by decide) fun d es1 hd p1 => ?_⟩
  obtain ⟨own, rfl, o0, o1⟩ : ∃ own : Int, d = .int own ∧ 1 ≤ own ∧ own ≤ 1000000000000 := by
    simp only [List.mem_cons, List.not_mem_nil, or_false] at hd
    rcases hd with h | h | h | h <;> exact ⟨_, h, by decide, by decide⟩
  refine ⟨by decide, fun q hq => ⟨(show 2 ≤ 100000 by decide), rfl, ?_⟩⟩
  have qp : q ≠ p := fun e => by subst e; rw [updM_at] at hq; cases hq
  have hq0 : M0 q = none := by rw [updM_ne qp] at hq; exact hq
  rw [st_new qp]
  refine ⟨fun i ρ' M' => ∃ (fd : List (List Int)) (es' : List (Key × D)) (d6 d7 d8 : Option D), fd.length = i ∧ (∀ r ∈ fd, drawn r) ∧ penD (n + 1 + 63 * i) es' ∧ M' = updM (updM M0 q (.lst (fd.map rowD))) p (.dct es') ∧ ρ' = [some (.obj p), some (.lst (ins.map ilD)), some (.int beats), some (.bl true), some (.int own), some (.obj q), d6, d7, d8, none, none],
    ⟨[], es1, none, none, none, rfl, by simp, p1, rfl, rfl⟩, ?_, ?_⟩
  · rintro i e ρ' M' he ⟨fd, es2, d6, d7, d8, hl, hd2, p2, rfl, rfl⟩
    obtain ⟨c, h2, rfl⟩ := map_get he
    have li : i < ins.length := (List.getElem?_eq_some_iff.mp h2).1
    have r := rh c (List.mem_of_getElem? h2)
    have l1 := r.1
    have l6 := r.2.1
    refine ⟨_, rfl, rfl, _, _, rfl, _, _, rfl, rfl, ?_⟩
    simp only [TV.wSeq, TV.wIf, TV.wOr, TV.wNot, TV.wAnd, TV.wAndV, TV.wOrV, TV.wNotV, TV.wIfE, TV.wTru, TV.wCB, TV.wCons, TV.wVar, TV.wC, TV.wNil, TV.wTest, TV.wChain, TV.wRet, TV.wRetN, TV.wNext, TV.wSet, TV.wDrop, TV.wFrz, TV.wMut, TV.wDisp, TV.wTup, TV.wOp, TV.wCall, TV.wDget, TV.wDput, TV.wFor, TV.wLc, TV.wiL, TV.wiT, TV.wiS, TV.wiR1, TV.wiR2, TV.wiEnumS, TV.wiEnum, TV.wgName, TV.wgTup, TV.wgCons, TV.wgNil, TV.wPar, TV.wPar3, TV.wAsg, TV.wUn, TV.wBM, TV.wApp, TV.wSetI, TV.wListC, TV.wSlL, TV.wSlS, TV.wSlT, TV.wNo, TV.wPart, TV.wYes, TV.wRev, TV.wMelt, TV.wNever, TV.wipe0, TV.wDictM, TV.wDictF, TV.wDict0F, TV.wPairs, List.getElem?_cons_zero, List.getElem?_cons_succ, List.set_cons_zero, List.set_cons_succ, Option.some.injEq, exists_eq_left', exists_eq_left, List.cons.injEq, and_true, true_and, TV.D.str.injEq, TV.D.int.injEq, TV.D.bl.injEq, TV.D.lst.injEq, TV.D.tup.injEq, TV.D.obj.injEq, List.map_cons, List.map_nil, TV.cmpD, TV.subD, TV.intD, TV.inSD, TV.ninSD, TV.isND, TV.notND, TV.isBD, TV.divmodC, TV.absC, isiC', TV.len_str, TV.len_lst, TV.len_tup, TV.tru_bl, TV.tru_int, TV.tru_str, TV.tru_lst, TV.tru_tup, TV.add_int, TV.add_str, TV.add_lst, TV.add_tup, TV.mul_int, TV.mul_str, TV.ix_str, TV.ix_lst, TV.ix_tup, TV.count_str, TV.eq_str, TV.ne_str, TV.eq_int, TV.ne_int, TV.eq_lst, TV.ne_lst, TV.sgx, TV.vw_non, TV.vw_bl, TV.vw_int, TV.vw_str, TV.vw_tup, TV.vw_lst, TV.vw_fro, TV.vw_dct, TV.key_str, TV.key_int, false_or, or_false, List.length_nil, TV.ty_non, TV.ty_bl, TV.ty_int, TV.ty_str, TV.ty_tup, TV.ty_lst, TV.ty_dct, TV.tn_str, TV.tn_int, TV.tn_bool, TV.tn_list, TV.tn_tuple, TV.tn_dict, TV.isT, String.reduceBEq, Bool.and_false, Bool.or_false, Bool.false_and, Bool.and_true, Bool.true_or, Bool.or_true, and_assoc, TV.D.ty.injEq, reduceCtorEq, exists_const, exists_and_left, exists_and_right, if_true, if_false, Bool.not_true, Bool.not_false, Bool.false_eq_true, reduceIte, TV.wExt, TV.wPop, TV.wPopAt, TV.wChg, TV.wAny, TV.wAug, TV.wWhile, TV.kgetD, TV.kinD, TV.wLenSet, TV.wLenO, TV.wEqO, TV.wMakeF, TV.wMeth, TV.wFld, TV.wSetF, TV.sumC, TV.minC, TV.maxC, TV.lcmC, TV.isiO, TV.wLc2, TV.wSlT, TV.wIsiT, List.append_nil, TV.wEither, TV.wGet2, TV.wDict1, TV.wDictZip, TV.sumIC, TV.wiZip, TV.wCallL, TV.mulTD]
    have fin : ∀ (r : List Int) (es4 : List (Key × D)), drawn r → penD (n + 1 + 63 * i + 2 + 60) es4 → ∃ ds, updM (updM M0 q (.lst (fd.map rowD))) p (.dct es4) q = some (.lst ds) ∧ ds.length < 100000 ∧
        ∃ fd2 : List (List Int), fd2.length = i + 1 ∧ (∀ r ∈ fd2, drawn r) ∧ ∃ x, penD (n + 1 + 63 * (i + 1)) x ∧ updM (updM (updM M0 q (.lst (fd.map rowD))) p (.dct es4)) q (.lst (ds ++ [rowD r])) = updM (updM M0 q (.lst (fd2.map rowD))) p (.dct x) := fun r es4 hr p4 =>
      ⟨_, by rw [updM_ne qp, updM_at], by rw [List.length_map]; omega, fd ++ [r], by simp [hl], fun x hx => by
        rcases List.mem_append.mp hx with hx | hx
        · exact hd2 x hx
        · rw [List.mem_singleton.mp hx]; exact hr, es4, p4.up (by omega), by rw [updM_comm (fun e => qp e.symm), updM_updM, List.map_append]; rfl⟩
    refine ⟨by omega, by omega, by rw [rng_len]; omega, fun j acc M' => M' = updM (updM M0 q (.lst (fd.map rowD))) p (.dct es2) ∧ acc.length ≤ j, ⟨rfl, Nat.le_refl _⟩, ?_, ?_⟩
    · rintro j d acc M' hj ⟨rfl, la⟩
      obtain ⟨hj, rfl⟩ := rng_get hj
      rw [Int.zero_add]
      obtain ⟨x, e3, e4⟩ := atI_in (l := c.2.cps.toList) (i := (j : Int) % c.2.length) (Int.emod_nonneg _ (by omega)) (by rw [str_len]; exact Int.emod_lt_of_pos _ (by omega))
      refine ⟨by omega, _, rfl, by omega, by omega, x, e4, ?_⟩
      split
      · exact ⟨rfl, by rw [List.length_append, List.length_singleton]; omega⟩
      · exact ⟨rfl, by omega⟩
    · rintro acc M' ⟨rfl, la⟩
      rw [rng_len] at la
      refine use_draw p2 (by omega) (by decide) (small_lt (by decide)) fun v es3 v0 v1 p3 => ?_
      simp only [TV.wSeq, TV.wIf, TV.wOr, TV.wNot, TV.wAnd, TV.wAndV, TV.wOrV, TV.wNotV, TV.wIfE, TV.wTru, TV.wCB, TV.wCons, TV.wVar, TV.wC, TV.wNil, TV.wTest, TV.wChain, TV.wRet, TV.wRetN, TV.wNext, TV.wSet, TV.wDrop, TV.wFrz, TV.wMut, TV.wDisp, TV.wTup, TV.wOp, TV.wCall, TV.wDget, TV.wDput, TV.wFor, TV.wLc, TV.wiL, TV.wiT, TV.wiS, TV.wiR1, TV.wiR2, TV.wiEnumS, TV.wiEnum, TV.wgName, TV.wgTup, TV.wgCons, TV.wgNil, TV.wPar, TV.wPar3, TV.wAsg, TV.wUn, TV.wBM, TV.wApp, TV.wSetI, TV.wListC, TV.wSlL, TV.wSlS, TV.wSlT, TV.wNo, TV.wPart, TV.wYes, TV.wRev, TV.wMelt, TV.wNever, TV.wipe0, TV.wDictM, TV.wDictF, TV.wDict0F, TV.wPairs, List.getElem?_cons_zero, List.getElem?_cons_succ, List.set_cons_zero, List.set_cons_succ, Option.some.injEq, exists_eq_left', exists_eq_left, List.cons.injEq, and_true, true_and, TV.D.str.injEq, TV.D.int.injEq, TV.D.bl.injEq, TV.D.lst.injEq, TV.D.tup.injEq, TV.D.obj.injEq, List.map_cons, List.map_nil, TV.cmpD, TV.subD, TV.intD, TV.inSD, TV.ninSD, TV.isND, TV.notND, TV.isBD, TV.divmodC, TV.absC, isiC', TV.len_str, TV.len_lst, TV.len_tup, TV.tru_bl, TV.tru_int, TV.tru_str, TV.tru_lst, TV.tru_tup, TV.add_int, TV.add_str, TV.add_lst, TV.add_tup, TV.mul_int, TV.mul_str, TV.ix_str, TV.ix_lst, TV.ix_tup, TV.count_str, TV.eq_str, TV.ne_str, TV.eq_int, TV.ne_int, TV.eq_lst, TV.ne_lst, TV.sgx, TV.vw_non, TV.vw_bl, TV.vw_int, TV.vw_str, TV.vw_tup, TV.vw_lst, TV.vw_fro, TV.vw_dct, TV.key_str, TV.key_int, false_or, or_false, List.length_nil, TV.ty_non, TV.ty_bl, TV.ty_int, TV.ty_str, TV.ty_tup, TV.ty_lst, TV.ty_dct, TV.tn_str, TV.tn_int, TV.tn_bool, TV.tn_list, TV.tn_tuple, TV.tn_dict, TV.isT, String.reduceBEq, Bool.and_false, Bool.or_false, Bool.false_and, Bool.and_true, Bool.true_or, Bool.or_true, and_assoc, TV.D.ty.injEq, reduceCtorEq, exists_const, exists_and_left, exists_and_right, if_true, if_false, Bool.not_true, Bool.not_false, Bool.false_eq_true, reduceIte, TV.wExt, TV.wPop, TV.wPopAt, TV.wChg, TV.wAny, TV.wAug, TV.wWhile, TV.kgetD, TV.kinD, TV.wLenSet, TV.wLenO, TV.wEqO, TV.wMakeF, TV.wMeth, TV.wFld, TV.wSetF, TV.sumC, TV.minC, TV.maxC, TV.lcmC, TV.isiO, TV.wLc2, TV.wSlT, TV.wIsiT, List.append_nil, TV.wEither, TV.wGet2, TV.wDict1, TV.wDictZip, TV.sumIC, TV.wiZip, TV.wCallL, TV.mulTD]
      by_cases z : v = 0
      · rw [if_pos (decide_eq_true z)]
        refine use_draw p3 (by omega) (by omega) (small_lt (by omega)) fun m es4 m0 m1 p4 => ⟨⟨_, by rw [updM_ne qp, updM_at]⟩, _, rfl, by omega, by omega, by rw [rng_len]; omega, draws o0 o1 p4 (by omega) (by omega) fun r es5 hr p5 => ?_⟩
        obtain ⟨ds, g1, g2, fd2, g3, g4, x, g5, g6⟩ := fin r es5 hr p5
        exact ⟨_, _, rfl, .inl rfl, ds, g1, g2, fd2, g3, g4, x, g5, g6, _, rfl⟩
      · rw [if_neg (by rw [decide_eq_true_eq]; exact z)]
        refine ⟨⟨_, by rw [updM_ne qp, updM_at]⟩, by omega, by omega, by rw [rng_len]; omega, draws o0 o1 (p3.up (Nat.le_succ _)) (by omega) (by omega) fun r es5 hr p5 => ?_⟩
        obtain ⟨ds, g1, g2, fd2, g3, g4, x, g5, g6⟩ := fin r es5 hr p5
        exact ⟨_, _, rfl, .inl rfl, ds, g1, g2, fd2, g3, g4, x, g5, g6, _, rfl⟩
  · rintro ρ' M' ⟨fd, es2, d6, d7, d8, hl, hd2, p2, rfl, rfl⟩
    rw [List.length_map] at hl p2
    simp only [TV.wSeq, TV.wIf, TV.wOr, TV.wNot, TV.wAnd, TV.wAndV, TV.wOrV, TV.wNotV, TV.wIfE, TV.wTru, TV.wCB, TV.wCons, TV.wVar, TV.wC, TV.wNil, TV.wTest, TV.wChain, TV.wRet, TV.wRetN, TV.wNext, TV.wSet, TV.wDrop, TV.wFrz, TV.wMut, TV.wDisp, TV.wTup, TV.wOp, TV.wCall, TV.wDget, TV.wDput, TV.wFor, TV.wLc, TV.wiL, TV.wiT, TV.wiS, TV.wiR1, TV.wiR2, TV.wiEnumS, TV.wiEnum, TV.wgName, TV.wgTup, TV.wgCons, TV.wgNil, TV.wPar, TV.wPar3, TV.wAsg, TV.wUn, TV.wBM, TV.wApp, TV.wSetI, TV.wListC, TV.wSlL, TV.wSlS, TV.wSlT, TV.wNo, TV.wPart, TV.wYes, TV.wRev, TV.wMelt, TV.wNever, TV.wipe0, TV.wDictM, TV.wDictF, TV.wDict0F, TV.wPairs, List.getElem?_cons_zero, List.getElem?_cons_succ, List.set_cons_zero, List.set_cons_succ, Option.some.injEq, exists_eq_left', exists_eq_left, List.cons.injEq, and_true, true_and, TV.D.str.injEq, TV.D.int.injEq, TV.D.bl.injEq, TV.D.lst.injEq, TV.D.tup.injEq, TV.D.obj.injEq, List.map_cons, List.map_nil, TV.cmpD, TV.subD, TV.intD, TV.inSD, TV.ninSD, TV.isND, TV.notND, TV.isBD, TV.divmodC, TV.absC, isiC', TV.len_str, TV.len_lst, TV.len_tup, TV.tru_bl, TV.tru_int, TV.tru_str, TV.tru_lst, TV.tru_tup, TV.add_int, TV.add_str, TV.add_lst, TV.add_tup, TV.mul_int, TV.mul_str, TV.ix_str, TV.ix_lst, TV.ix_tup, TV.count_str, TV.eq_str, TV.ne_str, TV.eq_int, TV.ne_int, TV.eq_lst, TV.ne_lst, TV.sgx, TV.vw_non, TV.vw_bl, TV.vw_int, TV.vw_str, TV.vw_tup, TV.vw_lst, TV.vw_fro, TV.vw_dct, TV.key_str, TV.key_int, false_or, or_false, List.length_nil, TV.ty_non, TV.ty_bl, TV.ty_int, TV.ty_str, TV.ty_tup, TV.ty_lst, TV.ty_dct, TV.tn_str, TV.tn_int, TV.tn_bool, TV.tn_list, TV.tn_tuple, TV.tn_dict, TV.isT, String.reduceBEq, Bool.and_false, Bool.or_false, Bool.false_and, Bool.and_true, Bool.true_or, Bool.or_true, and_assoc, TV.D.ty.injEq, reduceCtorEq, exists_const, exists_and_left, exists_and_right, if_true, if_false, Bool.not_true, Bool.not_false, Bool.false_eq_true, reduceIte, TV.wExt, TV.wPop, TV.wPopAt, TV.wChg, TV.wAny, TV.wAug, TV.wWhile, TV.kgetD, TV.kinD, TV.wLenSet, TV.wLenO, TV.wEqO, TV.wMakeF, TV.wMeth, TV.wFld, TV.wSetF, TV.sumC, TV.minC, TV.maxC, TV.lcmC, TV.isiO, TV.wLc2, TV.wSlT, TV.wIsiT, List.append_nil, TV.wEither, TV.wGet2, TV.wDict1, TV.wDictZip, TV.sumIC, TV.wiZip, TV.wCallL, TV.mulTD]
    refine ⟨_, _, rfl, .inl (vw_obj_lst (by rw [updM_ne qp, updM_at])), updM M0 p (.dct es2), fun a m e => ?_, hk fd es2 hl hd2 (p2.up (by omega))⟩
    by_cases ap : a = p
    · subst ap; rw [updM_at] at e ⊢; exact e
    · rw [updM_ne ap] at e ⊢
      have aq : a ≠ q := fun z => by rw [z, hq0] at e; cases e
      rw [updM_ne aq]
      exact e
def outK (ins : List (Str × Str)) (now k : Nat) : List (Nat × Nat) := (takL ins (now + 1 : Nat) k).map fun i => (i, match ins[i]? with | some p => tN p.2 now | none => 0)
def manyK (ins : List (Str × Str)) (now k : Nat) : List D := (ins.take k).map (fun p => D.int (tN p.2 (now + 1) : Nat)) ++ (ins.drop k).map fun p => D.int (tN p.2 now : Nat)
theorem outK_zero (ins : List (Str × Str)) (now : Nat) : outK ins now 0 = [] := rfl
theorem outK_all (ins : List (Str × Str)) (now : Nat) : outK ins now ins.length = outI ins now := rfl
theorem manyK_zero (ins : List (Str × Str)) (now : Nat) : manyK ins now 0 = ins.map fun p => D.int (tN p.2 now : Nat) := by simp [manyK]
theorem manyK_all (ins : List (Str × Str)) (now : Nat) : manyK ins now ins.length = ins.map fun p => D.int (tN p.2 (now + 1) : Nat) := by simp [manyK]
theorem outK_succ {ins : List (Str × Str)} {now k : Nat} {p : Str × Str} (h : ins[k]? = some p) : outK ins now (k + 1) = outK ins now k ++ if takesB p.2 (now + 1 : Nat) = true then [(k, tN p.2 now)] else [] := by
  unfold outK
  rw [takL_succ h, List.map_append]
  congr 1
  cases e : takesB p.2 (now + 1 : Nat) with
  | true => rw [if_pos rfl, if_pos rfl, List.map_cons, List.map_nil, h]
  | false => rw [if_neg (by decide), if_neg (by decide), List.map_nil]
theorem manyK_at {ins : List (Str × Str)} {now k : Nat} {p : Str × Str} (h : ins[k]? = some p) : (manyK ins now k)[k]? = some (D.int (tN p.2 now : Nat)) := by
  have lt := (List.getElem?_eq_some_iff.mp h).1
  unfold manyK
  rw [List.getElem?_append_right (by rw [List.length_map, List.length_take]; omega), List.length_map, List.length_take, Nat.min_eq_left (by omega), Nat.sub_self, List.getElem?_map, List.getElem?_drop, Nat.add_zero, h]
  rfl
theorem manyK_set {ins : List (Str × Str)} {now k : Nat} {p : Str × Str} (h : ins[k]? = some p) : (manyK ins now k).set k (D.int (tN p.2 (now + 1) : Nat)) = manyK ins now (k + 1) := by
  have lt := (List.getElem?_eq_some_iff.mp h).1
  unfold manyK
  rw [List.set_append_right _ _ (by rw [List.length_map, List.length_take]; omega), List.length_map, List.length_take, Nat.min_eq_left (by omega), Nat.sub_self, List.drop_eq_getElem_cons lt, List.map_cons, List.set_cons_zero, List.take_add_one, h]
  simp
theorem manyK_stay {ins : List (Str × Str)} {now k : Nat} {p : Str × Str} (h : ins[k]? = some p) (e : tN p.2 (now + 1) = tN p.2 now) : manyK ins now (k + 1) = manyK ins now k := by
  have lt := (List.getElem?_eq_some_iff.mp h).1
  have ep := (List.getElem?_eq_some_iff.mp h).2
  unfold manyK
  rw [List.drop_eq_getElem_cons lt, List.map_cons, ep, List.take_add_one, h, ← e]
  simp
theorem manyK_len (ins : List (Str × Str)) (now k : Nat) : (manyK ins now k).length = ins.length := by
  unfold manyK
  rw [List.length_append, List.length_map, List.length_map, ← List.length_append, List.take_append_drop]
theorem ix_view {M : MS} {d c : D} {xs : List D} {i : Int} {q : D → Prop} (v : view M d = .lst xs) (h : atI xs i = some c) (hq : q c) : ixD M d (.int i) q :=
  ⟨_, rfl, by rw [v]; exact ⟨c, h, hq⟩⟩
def sp__law_inputs : DSp := fun ds M _ k => ds.length = 2 ∧ ∃ (ins : List (Str × Str)) (b : Nat), ds = [.lst (ins.map ilD), .int b] ∧ (∀ p ∈ ins, okRh p.2) ∧ ins.length ≤ 3 ∧ b ≤ 600 ∧ k (.lst ((inputsN ins b).map pairD)) M
theorem ok__law_inputs (T : Tx w K mg) : FnG P w K mg base CX0 1 T.f__law_inputs T.e__law_inputs ["_law_inlets", "_law_beats"] (rSp K sp__law_inputs) := by
  refine fnTW T.d__law_inputs.fn sc__law_inputs (fun ds M x k h => h.1) (by decide) (fun cdv A outer s H E rm => ?_) (fun ds M x k h => h)
  refine ⟨_, (yss_cons (ys_par (i := 2) (j := 3) rfl sc__law_inputs.nd rfl rfl (by decide) rfl rfl (xa_cons (xl_mut (xl_lst xa_nil)) (xa_cons (xl_mut (xl_lc (own := [("_law_one", 7)]) (g := gName 7) rfl sc__law_inputs.nd (xi_list (xv 0)) (blkOk_by (N := ["_law_inlets", "_law_beats", "_law_found", "_law_many", "_law_beat", "_law_k", "_law_rhythm_here", "_law_one"]) (sc := defScope s__law_inputs) (by decide +kernel)) (tg_name (by decide)) (fun _ _ _ _ _ => pg_name (i := 7) sc__law_inputs.nd rfl (by first | exact Or.inl rfl | exact Or.inr rfl)) (fun _ _ _ _ _ => xts_nil) (fun _ _ _ _ _ => xint))) xa_nil)) (by rfl))
      (yss_cons (ys_for PassesOwn.never rfl (xi_range1 (by rfl) T.m_range (xa_cons (xv 1) xa_nil)) (xg_name (i := 4) sc__law_inputs.nd rfl (by first | exact Or.inl rfl | exact Or.inr rfl)) (yss_one (ys_for PassesOwn.never rfl (xi_range1 (by rfl) T.m_range (xa_cons (xe_callB call_lenD' l_lenC (by rfl) T.m_len (by decide +kernel) (xa_cons (xv 0) xa_nil)) xa_nil)) (xg_name (i := 5) sc__law_inputs.nd rfl (by first | exact Or.inl rfl | exact Or.inr rfl)) (yss_cons (ys_set (i := 6) sc__law_inputs.nd rfl (by first | exact Or.inl rfl | exact Or.inr rfl) (xe_ix (xe_ix (xv 0) (xv 5) (fun _ _ => rfl)) xint (fun _ _ => rfl)))
      (yss_one (ys_if (xt_cmp (op_eqE rm.u64) l_eqE (xe_ix (xv 6) (xe_op op_mod l_intD (xv 4) (xe_callB call_lenD' l_lenC (by rfl) T.m_len (by decide +kernel) (xa_cons (xv 6) xa_nil))) (fun _ _ => rfl)) xstr (nomark _)) (yss_cons (ys_expr (xe_append (xv 2) (xe_tup (xa_cons (xv 5) (xa_cons (xe_ix (xv 3) (xv 5) (fun _ _ => rfl)) xa_nil)))))
      (yss_one (ys_seti (xe_op op_addD l_addD (xe_ix (xv 3) (xv 5) (fun _ _ => rfl)) xint) (xv 3) (xv 5)))) yss_nil))))))
      (yss_one (ys_ret (xmelt 2))))), ?_⟩
  intro ds M k h
  obtain ⟨-, ins, b, rfl, rh, few, b6, hk⟩ := h
  rw [show start0 ["_law_inlets", "_law_beats", "_law_found", "_law_many", "_law_beat", "_law_k", "_law_rhythm_here", "_law_one"] [D.lst (ins.map ilD), D.int b] = [some (.lst (ins.map ilD)), some (.int b), none, none, none, none, none, none] from rfl]
  simp only [TV.wSeq, TV.wIf, TV.wOr, TV.wNot, TV.wAnd, TV.wAndV, TV.wOrV, TV.wNotV, TV.wIfE, TV.wTru, TV.wCB, TV.wCons, TV.wVar, TV.wC, TV.wNil, TV.wTest, TV.wChain, TV.wRet, TV.wRetN, TV.wNext, TV.wSet, TV.wDrop, TV.wFrz, TV.wMut, TV.wDisp, TV.wTup, TV.wOp, TV.wCall, TV.wDget, TV.wDput, TV.wFor, TV.wLc, TV.wiL, TV.wiT, TV.wiS, TV.wiR1, TV.wiR2, TV.wiEnumS, TV.wiEnum, TV.wgName, TV.wgTup, TV.wgCons, TV.wgNil, TV.wPar, TV.wPar3, TV.wAsg, TV.wUn, TV.wBM, TV.wApp, TV.wSetI, TV.wListC, TV.wSlL, TV.wSlS, TV.wSlT, TV.wNo, TV.wPart, TV.wYes, TV.wRev, TV.wMelt, TV.wNever, TV.wipe0, TV.wDictM, TV.wDictF, TV.wDict0F, TV.wPairs, List.getElem?_cons_zero, List.getElem?_cons_succ, List.set_cons_zero, List.set_cons_succ, Option.some.injEq, exists_eq_left', exists_eq_left, List.cons.injEq, and_true, true_and, TV.D.str.injEq, TV.D.int.injEq, TV.D.bl.injEq, TV.D.lst.injEq, TV.D.tup.injEq, TV.D.obj.injEq, List.map_cons, List.map_nil, TV.cmpD, TV.subD, TV.intD, TV.inSD, TV.ninSD, TV.isND, TV.notND, TV.isBD, TV.divmodC, TV.absC, isiC', TV.len_str, TV.len_lst, TV.len_tup, TV.tru_bl, TV.tru_int, TV.tru_str, TV.tru_lst, TV.tru_tup, TV.add_int, TV.add_str, TV.add_lst, TV.add_tup, TV.mul_int, TV.mul_str, TV.ix_str, TV.ix_lst, TV.ix_tup, TV.count_str, TV.eq_str, TV.ne_str, TV.eq_int, TV.ne_int, TV.eq_lst, TV.ne_lst, TV.sgx, TV.vw_non, TV.vw_bl, TV.vw_int, TV.vw_str, TV.vw_tup, TV.vw_lst, TV.vw_fro, TV.vw_dct, TV.key_str, TV.key_int, false_or, or_false, List.length_nil, TV.ty_non, TV.ty_bl, TV.ty_int, TV.ty_str, TV.ty_tup, TV.ty_lst, TV.ty_dct, TV.tn_str, TV.tn_int, TV.tn_bool, TV.tn_list, TV.tn_tuple, TV.tn_dict, TV.isT, String.reduceBEq, Bool.and_false, Bool.or_false, Bool.false_and, Bool.and_true, Bool.true_or, Bool.or_true, and_assoc, TV.D.ty.injEq, reduceCtorEq, exists_const, exists_and_left, exists_and_right, if_true, if_false, Bool.not_true, Bool.not_false, Bool.false_eq_true, reduceIte, TV.wExt, TV.wPop, TV.wPopAt, TV.wChg, TV.wAny, TV.wAug, TV.wWhile, TV.kgetD, TV.kinD, TV.wLenSet, TV.wLenO, TV.wEqO, TV.wMakeF, TV.wMeth, TV.wFld, TV.wSetF, TV.sumC, TV.minC, TV.maxC, TV.lcmC, TV.isiO, TV.wLc2, TV.wSlT, TV.wIsiT, List.append_nil, TV.wEither, TV.wGet2, TV.wDict1, TV.wDictZip, TV.sumIC, TV.wiZip, TV.wCallL, TV.mulTD]
  refine ⟨by decide, fun q hq => ⟨by rw [List.length_map]; omega, fun i acc M' => M' = updM M q (.lst []) ∧ acc = (ins.take i).map fun _ => D.int 0, ⟨rfl, rfl⟩, ?_, ?_⟩⟩
  · rintro i e acc M' he ⟨rfl, rfl⟩
    obtain ⟨c, h2, rfl⟩ := map_get he
    refine ⟨rfl, ?_⟩
    rw [List.take_add_one, h2]
    simp
  · rintro acc M' ⟨rfl, rfl⟩ f hf
    rw [show List.take (ins.map ilD).length ins = ins by rw [List.length_map, List.take_length]]
    have fq : f ≠ q := fun e => by subst e; rw [updM_at] at hf; cases hf
    have hf0 : M f = none := by rw [updM_ne fq] at hf; exact hf
    refine ⟨by omega, by omega, fun i ρ' M' => ∃ d4 d5 d6, ρ' = [some (.lst (ins.map ilD)), some (.int b), some (.obj q), some (.obj f), d4, d5, d6, none] ∧ M' = updM (updM M q (.lst ((inputsN ins i).map pairD))) f (.lst (ins.map fun p => D.int (tN p.2 i : Nat))), ⟨none, none, none, rfl, rfl⟩, ?_, ?_⟩
    · rintro i e ρ' M' he ⟨d4, d5, d6, rfl, rfl⟩
      obtain ⟨hi, rfl⟩ := rng_get he
      rw [Int.zero_add]
      simp only [TV.wSeq, TV.wIf, TV.wOr, TV.wNot, TV.wAnd, TV.wAndV, TV.wOrV, TV.wNotV, TV.wIfE, TV.wTru, TV.wCB, TV.wCons, TV.wVar, TV.wC, TV.wNil, TV.wTest, TV.wChain, TV.wRet, TV.wRetN, TV.wNext, TV.wSet, TV.wDrop, TV.wFrz, TV.wMut, TV.wDisp, TV.wTup, TV.wOp, TV.wCall, TV.wDget, TV.wDput, TV.wFor, TV.wLc, TV.wiL, TV.wiT, TV.wiS, TV.wiR1, TV.wiR2, TV.wiEnumS, TV.wiEnum, TV.wgName, TV.wgTup, TV.wgCons, TV.wgNil, TV.wPar, TV.wPar3, TV.wAsg, TV.wUn, TV.wBM, TV.wApp, TV.wSetI, TV.wListC, TV.wSlL, TV.wSlS, TV.wSlT, TV.wNo, TV.wPart, TV.wYes, TV.wRev, TV.wMelt, TV.wNever, TV.wipe0, TV.wDictM, TV.wDictF, TV.wDict0F, TV.wPairs, List.getElem?_cons_zero, List.getElem?_cons_succ, List.set_cons_zero, List.set_cons_succ, Option.some.injEq, exists_eq_left', exists_eq_left, List.cons.injEq, and_true, true_and, TV.D.str.injEq, TV.D.int.injEq, TV.D.bl.injEq, TV.D.lst.injEq, TV.D.tup.injEq, TV.D.obj.injEq, List.map_cons, List.map_nil, TV.cmpD, TV.subD, TV.intD, TV.inSD, TV.ninSD, TV.isND, TV.notND, TV.isBD, TV.divmodC, TV.absC, isiC', TV.len_str, TV.len_lst, TV.len_tup, TV.tru_bl, TV.tru_int, TV.tru_str, TV.tru_lst, TV.tru_tup, TV.add_int, TV.add_str, TV.add_lst, TV.add_tup, TV.mul_int, TV.mul_str, TV.ix_str, TV.ix_lst, TV.ix_tup, TV.count_str, TV.eq_str, TV.ne_str, TV.eq_int, TV.ne_int, TV.eq_lst, TV.ne_lst, TV.sgx, TV.vw_non, TV.vw_bl, TV.vw_int, TV.vw_str, TV.vw_tup, TV.vw_lst, TV.vw_fro, TV.vw_dct, TV.key_str, TV.key_int, false_or, or_false, List.length_nil, TV.ty_non, TV.ty_bl, TV.ty_int, TV.ty_str, TV.ty_tup, TV.ty_lst, TV.ty_dct, TV.tn_str, TV.tn_int, TV.tn_bool, TV.tn_list, TV.tn_tuple, TV.tn_dict, TV.isT, String.reduceBEq, Bool.and_false, Bool.or_false, Bool.false_and, Bool.and_true, Bool.true_or, Bool.or_true, and_assoc, TV.D.ty.injEq, reduceCtorEq, exists_const, exists_and_left, exists_and_right, if_true, if_false, Bool.not_true, Bool.not_false, Bool.false_eq_true, reduceIte, TV.wExt, TV.wPop, TV.wPopAt, TV.wChg, TV.wAny, TV.wAug, TV.wWhile, TV.kgetD, TV.kinD, TV.wLenSet, TV.wLenO, TV.wEqO, TV.wMakeF, TV.wMeth, TV.wFld, TV.wSetF, TV.sumC, TV.minC, TV.maxC, TV.lcmC, TV.isiO, TV.wLc2, TV.wSlT, TV.wIsiT, List.append_nil, TV.wEither, TV.wGet2, TV.wDict1, TV.wDictZip, TV.sumIC, TV.wiZip, TV.wCallL, TV.mulTD]
      rw [List.length_map]
      refine ⟨by omega, by omega, fun j ρ' M' => ∃ d5 d6, ρ' = [some (.lst (ins.map ilD)), some (.int b), some (.obj q), some (.obj f), some (.int i), d5, d6, none] ∧ M' = updM (updM M q (.lst ((inputsN ins i ++ outK ins i j).map pairD))) f (.lst (manyK ins i j)), ⟨_, _, rfl, ?_⟩, ?_, ?_⟩
      · rw [outK_zero, manyK_zero, List.append_nil]
      · rintro j e ρ' M' hj ⟨d5, d6, rfl, rfl⟩
        obtain ⟨hj, rfl⟩ := rng_get hj
        rw [Int.zero_add]
        have lj : j < ins.length := by omega
        have ej : ins[j]? = some ins[j] := List.getElem?_eq_getElem lj
        simp only [TV.wSeq, TV.wIf, TV.wOr, TV.wNot, TV.wAnd, TV.wAndV, TV.wOrV, TV.wNotV, TV.wIfE, TV.wTru, TV.wCB, TV.wCons, TV.wVar, TV.wC, TV.wNil, TV.wTest, TV.wChain, TV.wRet, TV.wRetN, TV.wNext, TV.wSet, TV.wDrop, TV.wFrz, TV.wMut, TV.wDisp, TV.wTup, TV.wOp, TV.wCall, TV.wDget, TV.wDput, TV.wFor, TV.wLc, TV.wiL, TV.wiT, TV.wiS, TV.wiR1, TV.wiR2, TV.wiEnumS, TV.wiEnum, TV.wgName, TV.wgTup, TV.wgCons, TV.wgNil, TV.wPar, TV.wPar3, TV.wAsg, TV.wUn, TV.wBM, TV.wApp, TV.wSetI, TV.wListC, TV.wSlL, TV.wSlS, TV.wSlT, TV.wNo, TV.wPart, TV.wYes, TV.wRev, TV.wMelt, TV.wNever, TV.wipe0, TV.wDictM, TV.wDictF, TV.wDict0F, TV.wPairs, List.getElem?_cons_zero, List.getElem?_cons_succ, List.set_cons_zero, List.set_cons_succ, Option.some.injEq, exists_eq_left', exists_eq_left, List.cons.injEq, and_true, true_and, TV.D.str.injEq, TV.D.int.injEq, TV.D.bl.injEq, TV.D.lst.injEq, TV.D.tup.injEq, TV.D.obj.injEq, List.map_cons, List.map_nil, TV.cmpD, TV.subD, TV.intD, TV.inSD, TV.ninSD, TV.isND, TV.notND, TV.isBD, TV.divmodC, TV.absC, isiC', TV.len_str, TV.len_lst, TV.len_tup, TV.tru_bl, TV.tru_int, TV.tru_str, TV.tru_lst, TV.tru_tup, TV.add_int, TV.add_str, TV.add_lst, TV.add_tup, TV.mul_int, TV.mul_str, TV.ix_str, TV.ix_lst, TV.ix_tup, TV.count_str, TV.eq_str, TV.ne_str, TV.eq_int, TV.ne_int, TV.eq_lst, TV.ne_lst, TV.sgx, TV.vw_non, TV.vw_bl, TV.vw_int, TV.vw_str, TV.vw_tup, TV.vw_lst, TV.vw_fro, TV.vw_dct, TV.key_str, TV.key_int, false_or, or_false, List.length_nil, TV.ty_non, TV.ty_bl, TV.ty_int, TV.ty_str, TV.ty_tup, TV.ty_lst, TV.ty_dct, TV.tn_str, TV.tn_int, TV.tn_bool, TV.tn_list, TV.tn_tuple, TV.tn_dict, TV.isT, String.reduceBEq, Bool.and_false, Bool.or_false, Bool.false_and, Bool.and_true, Bool.true_or, Bool.or_true, and_assoc, TV.D.ty.injEq, reduceCtorEq, exists_const, exists_and_left, exists_and_right, if_true, if_false, Bool.not_true, Bool.not_false, Bool.false_eq_true, reduceIte, TV.wExt, TV.wPop, TV.wPopAt, TV.wChg, TV.wAny, TV.wAug, TV.wWhile, TV.kgetD, TV.kinD, TV.wLenSet, TV.wLenO, TV.wEqO, TV.wMakeF, TV.wMeth, TV.wFld, TV.wSetF, TV.sumC, TV.minC, TV.maxC, TV.lcmC, TV.isiO, TV.wLc2, TV.wSlT, TV.wIsiT, List.append_nil, TV.wEither, TV.wGet2, TV.wDict1, TV.wDictZip, TV.sumIC, TV.wiZip, TV.wCallL, TV.mulTD]
        have r := rh _ (List.getElem_mem lj)
        have l1 := r.1
        have l6 := r.2.1
        obtain ⟨c0, e1, e2⟩ := atI_in (l := ins.map ilD) (i := (j : Int)) (by omega) (by rw [List.length_map]; omega)
        rw [Int.toNat_natCast, List.getElem?_map, ej] at e1
        cases e1
        obtain ⟨c, e3, e4⟩ := atI_in (l := ins[j].2.cps.toList) (i := (i : Int) % ins[j].2.length) (Int.emod_nonneg _ (by omega)) (by rw [str_len]; exact Int.emod_lt_of_pos _ (by omega))
        refine ⟨_, e2, ix_tup.mpr ⟨_, rfl, ?_⟩⟩
        simp only [TV.wSeq, TV.wIf, TV.wOr, TV.wNot, TV.wAnd, TV.wAndV, TV.wOrV, TV.wNotV, TV.wIfE, TV.wTru, TV.wCB, TV.wCons, TV.wVar, TV.wC, TV.wNil, TV.wTest, TV.wChain, TV.wRet, TV.wRetN, TV.wNext, TV.wSet, TV.wDrop, TV.wFrz, TV.wMut, TV.wDisp, TV.wTup, TV.wOp, TV.wCall, TV.wDget, TV.wDput, TV.wFor, TV.wLc, TV.wiL, TV.wiT, TV.wiS, TV.wiR1, TV.wiR2, TV.wiEnumS, TV.wiEnum, TV.wgName, TV.wgTup, TV.wgCons, TV.wgNil, TV.wPar, TV.wPar3, TV.wAsg, TV.wUn, TV.wBM, TV.wApp, TV.wSetI, TV.wListC, TV.wSlL, TV.wSlS, TV.wSlT, TV.wNo, TV.wPart, TV.wYes, TV.wRev, TV.wMelt, TV.wNever, TV.wipe0, TV.wDictM, TV.wDictF, TV.wDict0F, TV.wPairs, List.getElem?_cons_zero, List.getElem?_cons_succ, List.set_cons_zero, List.set_cons_succ, Option.some.injEq, exists_eq_left', exists_eq_left, List.cons.injEq, and_true, true_and, TV.D.str.injEq, TV.D.int.injEq, TV.D.bl.injEq, TV.D.lst.injEq, TV.D.tup.injEq, TV.D.obj.injEq, List.map_cons, List.map_nil, TV.cmpD, TV.subD, TV.intD, TV.inSD, TV.ninSD, TV.isND, TV.notND, TV.isBD, TV.divmodC, TV.absC, isiC', TV.len_str, TV.len_lst, TV.len_tup, TV.tru_bl, TV.tru_int, TV.tru_str, TV.tru_lst, TV.tru_tup, TV.add_int, TV.add_str, TV.add_lst, TV.add_tup, TV.mul_int, TV.mul_str, TV.ix_str, TV.ix_lst, TV.ix_tup, TV.count_str, TV.eq_str, TV.ne_str, TV.eq_int, TV.ne_int, TV.eq_lst, TV.ne_lst, TV.sgx, TV.vw_non, TV.vw_bl, TV.vw_int, TV.vw_str, TV.vw_tup, TV.vw_lst, TV.vw_fro, TV.vw_dct, TV.key_str, TV.key_int, false_or, or_false, List.length_nil, TV.ty_non, TV.ty_bl, TV.ty_int, TV.ty_str, TV.ty_tup, TV.ty_lst, TV.ty_dct, TV.tn_str, TV.tn_int, TV.tn_bool, TV.tn_list, TV.tn_tuple, TV.tn_dict, TV.isT, String.reduceBEq, Bool.and_false, Bool.or_false, Bool.false_and, Bool.and_true, Bool.true_or, Bool.or_true, and_assoc, TV.D.ty.injEq, reduceCtorEq, exists_const, exists_and_left, exists_and_right, if_true, if_false, Bool.not_true, Bool.not_false, Bool.false_eq_true, reduceIte, TV.wExt, TV.wPop, TV.wPopAt, TV.wChg, TV.wAny, TV.wAug, TV.wWhile, TV.kgetD, TV.kinD, TV.wLenSet, TV.wLenO, TV.wEqO, TV.wMakeF, TV.wMeth, TV.wFld, TV.wSetF, TV.sumC, TV.minC, TV.maxC, TV.lcmC, TV.isiO, TV.wLc2, TV.wSlT, TV.wIsiT, List.append_nil, TV.wEither, TV.wGet2, TV.wDict1, TV.wDictZip, TV.sumIC, TV.wiZip, TV.wCallL, TV.mulTD]
        refine ⟨by omega, by omega, by omega, c, e4, ?_⟩
        have qf : q ≠ f := fun e => fq e.symm
        have tg : takesB ins[j].2 ((i + 1 : Nat) : Int) = decide (c = 120) := by
          rw [takes_sg]
          unfold sg
          rw [e3]
          exact decide_eq_decide.mpr ⟨fun h => Option.some.inj h, fun h => by rw [h]⟩
        have il := inputs_len few i
        have ol : (outK ins i j).length ≤ 3 := by
          unfold outK
          rw [List.length_map]
          have := takL_len ins (i + 1 : Nat) j
          omega
        by_cases h : c = 120
        · rw [if_pos (decide_eq_true h)]
          rw [decide_eq_true h] at tg
          have t1 : tN ins[j].2 (i + 1) = tN ins[j].2 i + 1 := by rw [tN_succ, ← takes_sg, tg, if_pos rfl]
          have am : atI (manyK ins i j) (j : Int) = some (D.int (tN ins[j].2 i : Nat)) := by
            obtain ⟨c1, g1, g2⟩ := atI_in (l := manyK ins i j) (i := (j : Int)) (by omega) (by rw [manyK_len]; omega)
            rw [g2, ← g1, Int.toNat_natCast, manyK_at ej]
          have ixj : ixN (manyK ins i j).length (j : Int) = some j := by
            unfold ixN
            rw [manyK_len, if_pos (by omega), if_pos (by omega), Int.toNat_natCast]
          refine ⟨⟨_, by rw [updM_ne qf, updM_at]⟩, ix_view (vw_obj_lst updM_at) am ⟨(show 2 ≤ 100000 by decide), _, by rw [updM_ne qf, updM_at], by rw [List.length_map, List.length_append]; omega, ix_view (vw_obj_lst (by rw [updM_ne fq, updM_at])) am ?_⟩⟩
          simp only [TV.wSeq, TV.wIf, TV.wOr, TV.wNot, TV.wAnd, TV.wAndV, TV.wOrV, TV.wNotV, TV.wIfE, TV.wTru, TV.wCB, TV.wCons, TV.wVar, TV.wC, TV.wNil, TV.wTest, TV.wChain, TV.wRet, TV.wRetN, TV.wNext, TV.wSet, TV.wDrop, TV.wFrz, TV.wMut, TV.wDisp, TV.wTup, TV.wOp, TV.wCall, TV.wDget, TV.wDput, TV.wFor, TV.wLc, TV.wiL, TV.wiT, TV.wiS, TV.wiR1, TV.wiR2, TV.wiEnumS, TV.wiEnum, TV.wgName, TV.wgTup, TV.wgCons, TV.wgNil, TV.wPar, TV.wPar3, TV.wAsg, TV.wUn, TV.wBM, TV.wApp, TV.wSetI, TV.wListC, TV.wSlL, TV.wSlS, TV.wSlT, TV.wNo, TV.wPart, TV.wYes, TV.wRev, TV.wMelt, TV.wNever, TV.wipe0, TV.wDictM, TV.wDictF, TV.wDict0F, TV.wPairs, List.getElem?_cons_zero, List.getElem?_cons_succ, List.set_cons_zero, List.set_cons_succ, Option.some.injEq, exists_eq_left', exists_eq_left, List.cons.injEq, and_true, true_and, TV.D.str.injEq, TV.D.int.injEq, TV.D.bl.injEq, TV.D.lst.injEq, TV.D.tup.injEq, TV.D.obj.injEq, List.map_cons, List.map_nil, TV.cmpD, TV.subD, TV.intD, TV.inSD, TV.ninSD, TV.isND, TV.notND, TV.isBD, TV.divmodC, TV.absC, isiC', TV.len_str, TV.len_lst, TV.len_tup, TV.tru_bl, TV.tru_int, TV.tru_str, TV.tru_lst, TV.tru_tup, TV.add_int, TV.add_str, TV.add_lst, TV.add_tup, TV.mul_int, TV.mul_str, TV.ix_str, TV.ix_lst, TV.ix_tup, TV.count_str, TV.eq_str, TV.ne_str, TV.eq_int, TV.ne_int, TV.eq_lst, TV.ne_lst, TV.sgx, TV.vw_non, TV.vw_bl, TV.vw_int, TV.vw_str, TV.vw_tup, TV.vw_lst, TV.vw_fro, TV.vw_dct, TV.key_str, TV.key_int, false_or, or_false, List.length_nil, TV.ty_non, TV.ty_bl, TV.ty_int, TV.ty_str, TV.ty_tup, TV.ty_lst, TV.ty_dct, TV.tn_str, TV.tn_int, TV.tn_bool, TV.tn_list, TV.tn_tuple, TV.tn_dict, TV.isT, String.reduceBEq, Bool.and_false, Bool.or_false, Bool.false_and, Bool.and_true, Bool.true_or, Bool.or_true, and_assoc, TV.D.ty.injEq, reduceCtorEq, exists_const, exists_and_left, exists_and_right, if_true, if_false, Bool.not_true, Bool.not_false, Bool.false_eq_true, reduceIte, TV.wExt, TV.wPop, TV.wPopAt, TV.wChg, TV.wAny, TV.wAug, TV.wWhile, TV.kgetD, TV.kinD, TV.wLenSet, TV.wLenO, TV.wEqO, TV.wMakeF, TV.wMeth, TV.wFld, TV.wSetF, TV.sumC, TV.minC, TV.maxC, TV.lcmC, TV.isiO, TV.wLc2, TV.wSlT, TV.wIsiT, List.append_nil, TV.wEither, TV.wGet2, TV.wDict1, TV.wDictZip, TV.sumIC, TV.wiZip, TV.wCallL, TV.mulTD]
          refine ⟨_, by rw [updM_ne fq, updM_at], j, ixj, ?_⟩
          rw [updM_comm fq, updM_updM, updM_updM, outK_succ ej, tg, if_pos rfl, ← manyK_set ej, t1]
          rw [show ((tN ins[j].2 i + 1 : Nat) : Int) = (tN ins[j].2 i : Int) + 1 by omega]
          congr 2
          simp [pairD]
        · rw [if_neg (by rw [decide_eq_true_eq]; exact h)]
          rw [decide_eq_false h] at tg
          have t1 : tN ins[j].2 (i + 1) = tN ins[j].2 i := by rw [tN_succ, ← takes_sg, tg, if_neg (by decide)]; rfl
          rw [outK_succ ej, tg, if_neg (by decide), List.append_nil, manyK_stay ej t1]
      · rintro ρ' M' ⟨d5, d6, rfl, rfl⟩
        rw [rng_len, Int.toNat_natCast, outK_all, manyK_all, ← inputs_succ]
        exact ⟨⟨_, _, _, rfl⟩, rfl⟩
    · rintro ρ' M' ⟨d4, d5, d6, rfl, rfl⟩
      rw [rng_len, Int.toNat_natCast]
      simp only [TV.wSeq, TV.wIf, TV.wOr, TV.wNot, TV.wAnd, TV.wAndV, TV.wOrV, TV.wNotV, TV.wIfE, TV.wTru, TV.wCB, TV.wCons, TV.wVar, TV.wC, TV.wNil, TV.wTest, TV.wChain, TV.wRet, TV.wRetN, TV.wNext, TV.wSet, TV.wDrop, TV.wFrz, TV.wMut, TV.wDisp, TV.wTup, TV.wOp, TV.wCall, TV.wDget, TV.wDput, TV.wFor, TV.wLc, TV.wiL, TV.wiT, TV.wiS, TV.wiR1, TV.wiR2, TV.wiEnumS, TV.wiEnum, TV.wgName, TV.wgTup, TV.wgCons, TV.wgNil, TV.wPar, TV.wPar3, TV.wAsg, TV.wUn, TV.wBM, TV.wApp, TV.wSetI, TV.wListC, TV.wSlL, TV.wSlS, TV.wSlT, TV.wNo, TV.wPart, TV.wYes, TV.wRev, TV.wMelt, TV.wNever, TV.wipe0, TV.wDictM, TV.wDictF, TV.wDict0F, TV.wPairs, List.getElem?_cons_zero, List.getElem?_cons_succ, List.set_cons_zero, List.set_cons_succ, Option.some.injEq, exists_eq_left', exists_eq_left, List.cons.injEq, and_true, true_and, TV.D.str.injEq, TV.D.int.injEq, TV.D.bl.injEq, TV.D.lst.injEq, TV.D.tup.injEq, TV.D.obj.injEq, List.map_cons, List.map_nil, TV.cmpD, TV.subD, TV.intD, TV.inSD, TV.ninSD, TV.isND, TV.notND, TV.isBD, TV.divmodC, TV.absC, isiC', TV.len_str, TV.len_lst, TV.len_tup, TV.tru_bl, TV.tru_int, TV.tru_str, TV.tru_lst, TV.tru_tup, TV.add_int, TV.add_str, TV.add_lst, TV.add_tup, TV.mul_int, TV.mul_str, TV.ix_str, TV.ix_lst, TV.ix_tup, TV.count_str, TV.eq_str, TV.ne_str, TV.eq_int, TV.ne_int, TV.eq_lst, TV.ne_lst, TV.sgx, TV.vw_non, TV.vw_bl, TV.vw_int, TV.vw_str, TV.vw_tup, TV.vw_lst, TV.vw_fro, TV.vw_dct, TV.key_str, TV.key_int, false_or, or_false, List.length_nil, TV.ty_non, TV.ty_bl, TV.ty_int, TV.ty_str, TV.ty_tup, TV.ty_lst, TV.ty_dct, TV.tn_str, TV.tn_int, TV.tn_bool, TV.tn_list, TV.tn_tuple, TV.tn_dict, TV.isT, String.reduceBEq, Bool.and_false, Bool.or_false, Bool.false_and, Bool.and_true, Bool.true_or, Bool.or_true, and_assoc, TV.D.ty.injEq, reduceCtorEq, exists_const, exists_and_left, exists_and_right, if_true, if_false, Bool.not_true, Bool.not_false, Bool.false_eq_true, reduceIte, TV.wExt, TV.wPop, TV.wPopAt, TV.wChg, TV.wAny, TV.wAug, TV.wWhile, TV.kgetD, TV.kinD, TV.wLenSet, TV.wLenO, TV.wEqO, TV.wMakeF, TV.wMeth, TV.wFld, TV.wSetF, TV.sumC, TV.minC, TV.maxC, TV.lcmC, TV.isiO, TV.wLc2, TV.wSlT, TV.wIsiT, List.append_nil, TV.wEither, TV.wGet2, TV.wDict1, TV.wDictZip, TV.sumIC, TV.wiZip, TV.wCallL, TV.mulTD]
      refine .inl ⟨_, by rw [updM_ne (fun e => fq e.symm), updM_at], M, fun a m e => ?_, hk⟩
      have aq : a ≠ q := fun z => by rw [z, hq] at e; cases e
      have af : a ≠ f := fun z => by rw [z, hf0] at e; cases e
      unfold delM
      rw [if_neg aq, updM_ne af, updM_ne aq]
      exact e
end
end K08

set_option Elab.async false
set_option linter.all false
set_option maxRecDepth 100000
set_option maxHeartbeats 2000000
namespace K08
open PySem PySem.Spec PyProof.Rows L2 TV
/-! ### what falls due, inlet by inlet -/
def rowN (ins : List (Str × Str)) (b k : Nat) : List Nat := ((inputsN ins b).filter fun p => decide (p.1 = k)).map Prod.snd
theorem takL_one {ins : List (Str × Str)} {b : Int} {k : Nat} {p : Str × Str} (h : ins[k]? = some p) : ∀ n, (takL ins b n).filter (fun i => decide (i = k)) = if k < n ∧ takesB p.2 b = true then [k] else []
  | 0 => by simp [takL]
  | n + 1 => by
    unfold takL
    rw [List.range_succ, List.filter_append, List.filter_append]
    have ih := takL_one (b := b) h n
    unfold takL at ih
    rw [ih]
    by_cases e : n = k
    · subst e
      rw [if_neg (by omega), List.nil_append]
      by_cases t : takesB p.2 b = true
      · rw [if_pos ⟨by omega, t⟩]; simp [h, t]
      · rw [if_neg (fun c => t c.2)]; simp [h, t]
    · have none1 : ∀ f : Nat → Bool, (List.filter f [n]).filter (fun i => decide (i = k)) = [] := by
        intro f
        rw [List.filter_eq_nil_iff]
        intro a ha
        have := (List.mem_filter.mp ha).1
        simp at this
        subst this
        simp [e]
      rw [none1, List.append_nil]
      by_cases t : takesB p.2 b = true
      · by_cases l : k < n
        · rw [if_pos ⟨l, t⟩, if_pos ⟨by omega, t⟩]
        · rw [if_neg (fun c => l c.1), if_neg (fun c => l (by omega))]
      · rw [if_neg (fun c => t c.2), if_neg (fun c => t c.2)]
theorem outI_one {ins : List (Str × Str)} {now k : Nat} {p : Str × Str} (h : ins[k]? = some p) : (((outI ins now).filter fun p => decide (p.1 = k)).map Prod.snd).length = if takesB p.2 (now + 1 : Nat) = true then 1 else 0 := by
  have lt := (List.getElem?_eq_some_iff.mp h).1
  unfold outI
  rw [List.length_map, List.filter_map, List.length_map]
  have := takL_one h (b := (now + 1 : Nat)) ins.length
  refine (congrArg List.length ((List.filter_congr fun x _ => rfl).trans this)).trans ?_
  by_cases t : takesB p.2 (now + 1 : Nat) = true
  · rw [if_pos ⟨lt, t⟩, if_pos t]; rfl
  · rw [if_neg (fun c => t c.2), if_neg t]; rfl
theorem rowN_len {ins : List (Str × Str)} {k : Nat} {p : Str × Str} (h : ins[k]? = some p) : ∀ b, (rowN ins b k).length = tN p.2 b
  | 0 => by simp [rowN, inputsN, tN]
  | b + 1 => by
    have ih := rowN_len h b
    unfold rowN at ih ⊢
    rw [inputs_succ, List.filter_append, List.map_append, List.length_append, ih, outI_one h, tN_succ, takes_sg]
theorem lim_eq {p : Str × Str} (h : okRh p.2) (b : Nat) : lim p b = tN p.2 b := by
  unfold lim
  rw [times_eq h]
  rfl
theorem lim_min {p : Str × Str} (h : okRh p.2) (a b : Nat) : min (lim p b) (lim p a) = lim p (min a b : Nat) := by
  rw [lim_eq h, lim_eq h, lim_eq h]
  by_cases l : a ≤ b
  · rw [Nat.min_eq_left l, Nat.min_eq_right (tN_mono _ l)]
  · rw [show min a b = b from Nat.min_eq_right (by omega), Nat.min_eq_left (tN_mono _ (by omega))]
theorem cutF_len {ins : List (Str × Str)} {fd : List (List Int)} (le : fd.length = ins.length) (b : Int) : (cutF ins fd b).length = ins.length := by
  unfold cutF
  rw [List.length_map, List.length_zip]; omega
theorem leftF_len {ins : List (Str × Str)} {fd : List (List Int)} (le : fd.length = ins.length) (b : Int) : (leftF ins fd b).length = ins.length := by
  unfold leftF
  rw [List.length_map, List.length_zip]; omega
theorem cutF_get {ins : List (Str × Str)} {fd : List (List Int)} {b : Int} {k : Nat} {p : Str × Str} {r : List Int} (h : ins[k]? = some p) (g : fd[k]? = some r) : (cutF ins fd b)[k]? = some (r.take (lim p b)) := by
  unfold cutF
  rw [List.getElem?_map, (List.getElem?_zip_eq_some (z := (r, p))).mpr ⟨g, h⟩]
  rfl
theorem leftF_get {ins : List (Str × Str)} {fd : List (List Int)} {b : Int} {k : Nat} {p : Str × Str} {r : List Int} (h : ins[k]? = some p) (g : fd[k]? = some r) : (leftF ins fd b)[k]? = some (r.drop (lim p b)) := by
  unfold leftF
  rw [List.getElem?_map, (List.getElem?_zip_eq_some (z := (r, p))).mpr ⟨g, h⟩]
  rfl
theorem cut_cut {ins : List (Str × Str)} {fd : List (List Int)} (rh : ∀ p ∈ ins, okRh p.2) (le : fd.length = ins.length) (a b : Nat) : cutF ins (cutF ins fd a) b = cutF ins fd (min a b : Nat) := by
  refine List.ext_getElem? fun k => ?_
  by_cases l : k < ins.length
  · have h := List.getElem?_eq_getElem l
    have g := List.getElem?_eq_getElem (l := fd) (i := k) (by omega)
    rw [cutF_get h (cutF_get h g), cutF_get h g, List.take_take, lim_min (rh _ (List.getElem_mem l))]
  · rw [List.getElem?_eq_none (by rw [cutF_len (cutF_len le _)]; omega), List.getElem?_eq_none (by rw [cutF_len le]; omega)]
theorem lim_far {p : Str × Str} (h : okRh p.2) {b : Int} (hb : 600 ≤ b) : 100 ≤ lim p b := by
  have := times_far h (b := b) (by omega)
  unfold lim
  omega
theorem cut_far {ins : List (Str × Str)} {fd : List (List Int)} (rh : ∀ p ∈ ins, okRh p.2) (le : fd.length = ins.length) (hr : ∀ r ∈ fd, drawn r) {b : Int} (hb : 600 ≤ b) : cutF ins fd b = fd := by
  refine List.ext_getElem? fun k => ?_
  by_cases l : k < ins.length
  · have h := List.getElem?_eq_getElem l
    have g := List.getElem?_eq_getElem (l := fd) (i := k) (by omega)
    rw [cutF_get h g, g]
    have := lim_far (rh _ (List.getElem_mem l)) hb
    have := (hr fd[k] (List.getElem_mem _)).1
    rw [List.take_of_length_le (by omega)]
  · rw [List.getElem?_eq_none (by rw [cutF_len le]; omega), List.getElem?_eq_none (by omega)]
theorem left_far {ins : List (Str × Str)} {fd : List (List Int)} (rh : ∀ p ∈ ins, okRh p.2) (le : fd.length = ins.length) (hr : ∀ r ∈ fd, drawn r) {b : Int} (hb : 600 ≤ b) : leftF ins fd b = List.replicate ins.length [] := by
  refine List.ext_getElem? fun k => ?_
  by_cases l : k < ins.length
  · have h := List.getElem?_eq_getElem l
    have g := List.getElem?_eq_getElem (l := fd) (i := k) (by omega)
    rw [leftF_get h g, List.getElem?_replicate, if_pos l]
    have := lim_far (rh _ (List.getElem_mem l)) hb
    have := (hr fd[k] (List.getElem_mem _)).1
    rw [List.drop_of_length_le (by omega)]
  · rw [List.getElem?_eq_none (by rw [leftF_len le]; omega), List.getElem?_eq_none (by rw [List.length_replicate]; omega)]
theorem end_far {ins : List (Str × Str)} {fd : List (List Int)} (one : 1 ≤ ins.length) (rh : ∀ p ∈ ins, okRh p.2) (le : fd.length = ins.length) (hr : ∀ r ∈ fd, drawn r) {b : Int} (hb : 600 ≤ b) : endlessB ins fd b = false := by
  cases e : endlessB ins fd b with
  | false => rfl
  | true =>
    unfold endlessB at e
    have e := List.all_eq_true.mp e (fd[0], ins[0]) (List.mem_of_getElem? ((List.getElem?_zip_eq_some (i := 0)).mpr ⟨List.getElem?_eq_getElem _, List.getElem?_eq_getElem _⟩))
    have e := of_decide_eq_true e
    have := lim_far (rh ins[0] (List.getElem_mem _)) hb
    have := (hr fd[0] (List.getElem_mem _)).1
    dsimp only at e
    omega
def lowN (ins : List (Str × Str)) (fd : List (List Int)) (b n : Nat) : List Nat := (List.range n).filter fun k => decide ((fd[k]?.getD []).length < (rowN ins b k).length)
theorem low_endless {ins : List (Str × Str)} {fd : List (List Int)} (rh : ∀ p ∈ ins, okRh p.2) (le : fd.length = ins.length) (b : Nat) : (lowN ins fd b ins.length).isEmpty = endlessB ins fd b := by
  rw [Bool.eq_iff_iff, List.isEmpty_iff]
  unfold lowN endlessB
  rw [List.filter_eq_nil_iff, List.all_eq_true]
  constructor
  · rintro h ⟨r, p⟩ hz
    obtain ⟨k, hk⟩ := List.getElem?_of_mem hz
    obtain ⟨h1, h2⟩ := List.getElem?_zip_eq_some.mp hk
    have lt := (List.getElem?_eq_some_iff.mp h2).1
    have := h k (List.mem_range.mpr lt)
    rw [h1, rowN_len h2] at this
    simp only [Option.getD_some, decide_eq_true_eq] at this
    rw [decide_eq_true_eq, lim_eq (rh _ (List.mem_of_getElem? h2))]
    show tN p.2 b ≤ r.length
    omega
  · intro h k hk
    have lt := List.mem_range.mp hk
    have g1 := List.getElem?_eq_getElem (l := fd) (i := k) (by omega)
    have g2 := List.getElem?_eq_getElem lt
    have := of_decide_eq_true (h (fd[k], ins[k]) (List.mem_of_getElem? (List.getElem?_zip_eq_some.mpr ⟨g1, g2⟩)))
    rw [lim_eq (rh _ (List.getElem_mem lt))] at this
    rw [g1, rowN_len g2]
    simp only [Option.getD_some, decide_eq_true_eq]
    dsimp only at this
    omega
/-! ### pictures -/
def pyN (p : Nat × Nat) : PyData := .tuple [.int p.1, .int p.2]
def pyR (r : List Int) : PyData := .tuple (r.map .int)
theorem pyN_r (p : Nat × Nat) : toR (pairD p) = some (pyN p) := rfl
theorem ints_r : ∀ cs : List Int, toRs (cs.map D.int) = some (cs.map PyData.int) := r_map fun _ => rfl
theorem pyR_r (r : List Int) : toR (rowD r) = some (pyR r) := by unfold rowD pyR; rw [toR, ints_r]; rfl
theorem pyR_py (r : List Int) : toPy (rowD r) = some (pyR r) := by unfold rowD pyR; rw [toPy, ints_py]; rfl
theorem ints_fine : ∀ cs : List Int, fineAll (cs.map PyData.int) = true
  | [] => rfl
  | c :: cs => by rw [List.map_cons, fineAll, ints_fine cs]; rfl
theorem rows_fine : ∀ fd : List (List Int), fineAll (fd.map pyR) = true
  | [] => rfl
  | c :: cs => by
    rw [List.map_cons, fineAll, rows_fine cs]
    show (fineP (.tuple (c.map .int)) && true) = true
    rw [fineP, ints_fine]; rfl
theorem inputs_small {ins : List (Str × Str)} (few : ins.length ≤ 3) : ∀ b, ∀ p ∈ inputsN ins b, p.1 < 3 ∧ p.2 ≤ b
  | 0 => by simp [inputsN]
  | b + 1 => by
    intro p hp
    rw [inputs_succ, List.mem_append] at hp
    rcases hp with hp | hp
    · have := inputs_small few b p hp; omega
    · unfold outI at hp
      obtain ⟨i, hi, rfl⟩ := List.mem_map.mp hp
      have lt := List.mem_range.mp (List.mem_filter.mp hi).1
      rw [List.getElem?_eq_getElem lt]
      have := tN_le ins[i].2 b
      exact ⟨by show i < 3; omega, by show tN ins[i].2 b ≤ b + 1; omega⟩
theorem due_nice {ins : List (Str × Str)} (few : ins.length ≤ 3) {b : Nat} (hb : b ≤ 600) : Nice (.list ((inputsN ins b).map pyN)) 90000 2 := by
  have l := inputs_len few b
  refine (Nice.list (b := 35) (n := 1) fun x hx => ?_).up (by rw [List.length_map]; omega) (by decide)
  obtain ⟨p, hp, rfl⟩ := List.mem_map.mp hx
  have s := inputs_small few b p hp
  refine (Nice.tuple (b := 14) (n := 0) fun y hy => ?_).up (by simp) (by decide)
  simp only [List.mem_cons, List.not_mem_nil, or_false] at hy
  rcases hy with rfl | rfl <;> exact Nice.wide (by omega) (by omega)
theorem repr_due {M : MS} {d : D} {ins : List (Str × Str)} (few : ins.length ≤ 3) {b : Nat} (hb : b ≤ 600) (hv : view M d = .lst ((inputsN ins b).map pairD)) {q : D → Prop} (h : q (.str (PyData.list ((inputsN ins b).map pyN)).shown)) : reprC M [d] q := by
  have n := due_nice few hb
  exact ⟨_, _, rfl, by rw [hv, toR, r_map pyN_r]; rfl, n.sh, Nat.le_trans n.dep (by decide), Nat.le_trans n.len (by decide), h⟩
theorem row_nice {r : List Int} (h : drawn r) : Nice (pyR r) 1000 1 := by
  obtain ⟨l, o⟩ := h
  refine (Nice.tuple (b := 14) (n := 0) fun x hx => ?_).up (by rw [List.length_map]; omega) (by decide)
  obtain ⟨i, hi, rfl⟩ := List.mem_map.mp hx
  exact Nice.wide (o i hi).1 (o i hi).2
theorem feed_nice {fd : List (List Int)} (few : fd.length ≤ 3) (h : ∀ r ∈ fd, drawn r) : Nice (.tuple (fd.map pyR)) 4000 2 := by
  refine (Nice.tuple (b := 1000) (n := 1) fun x hx => ?_).up (by rw [List.length_map]; omega) (by decide)
  obtain ⟨i, hi, rfl⟩ := List.mem_map.mp hx
  exact row_nice (h i hi)
theorem feed_r (fd : List (List Int)) : toR (.tup (fd.map rowD)) = some (.tuple (fd.map pyR)) := by rw [toR, r_map pyR_r]; rfl
theorem feed_py (fd : List (List Int)) : toPy (.tup (fd.map rowD)) = some (.tuple (fd.map pyR)) := by rw [toPy, py_map pyR_py]; rfl
theorem drawn_take {r : List Int} (h : drawn r) (n : Nat) : drawn (r.take n) := ⟨by rw [List.length_take]; have := h.1; omega, fun i hi => h.2 i (List.mem_of_mem_take hi)⟩
theorem drawn_drop {r : List Int} (h : drawn r) (n : Nat) : drawn (r.drop n) := ⟨by rw [List.length_drop]; have := h.1; omega, fun i hi => h.2 i (List.mem_of_mem_drop hi)⟩
theorem cut_drawn {ins : List (Str × Str)} {fd : List (List Int)} (h : ∀ r ∈ fd, drawn r) (b : Int) : ∀ r ∈ cutF ins fd b, drawn r := by
  intro r hr
  unfold cutF at hr
  obtain ⟨z, hz, rfl⟩ := List.mem_map.mp hr
  exact drawn_take (h _ (List.of_mem_zip hz).1) _
theorem drawn_row {r : List Int} (h : drawn r) : okRow r := ⟨by have := h.1; omega, h.2⟩
/-- a feed and a truth; two feeds and a truth -/
theorem repr_two {M : MS} {d : D} {fd : List (List Int)} (few : fd.length ≤ 3) (h : ∀ r ∈ fd, drawn r) {t : Bool} (hv : view M d = .lst [.tup (fd.map rowD), .bl t]) {q : D → Prop} (hq : q (.str (PyData.list [.tuple (fd.map pyR), .bool t]).shown)) : reprC M [d] q := by
  have n : Nice (.list [.tuple (fd.map pyR), .bool t]) 9000 3 := (Nice.list (b := 4000) (n := 2) fun x hx => by
    simp only [List.mem_cons, List.not_mem_nil, or_false] at hx
    rcases hx with rfl | rfl
    · exact feed_nice few h
    · exact (Nice.bool t).up (by decide) (by decide)).up (by simp) (by decide)
  exact ⟨_, _, rfl, by rw [hv, toR, toRs, feed_r]; rfl, n.sh, Nat.le_trans n.dep (by decide), Nat.le_trans n.len (by decide), hq⟩
theorem repr_three {M : MS} {d : D} {fd ft : List (List Int)} (few : fd.length ≤ 3) (few2 : ft.length ≤ 3) (h : ∀ r ∈ fd, drawn r) (h2 : ∀ r ∈ ft, drawn r) {t : Bool} (hv : view M d = .lst [.tup (fd.map rowD), .tup (ft.map rowD), .bl t]) {q : D → Prop} (hq : q (.str (PyData.list [.tuple (fd.map pyR), .tuple (ft.map pyR), .bool t]).shown)) : reprC M [d] q := by
  have n : Nice (.list [.tuple (fd.map pyR), .tuple (ft.map pyR), .bool t]) 13000 3 := (Nice.list (b := 4000) (n := 2) fun x hx => by
    simp only [List.mem_cons, List.not_mem_nil, or_false] at hx
    rcases hx with rfl | rfl | rfl
    · exact feed_nice few h
    · exact feed_nice few2 h2
    · exact (Nice.bool t).up (by decide) (by decide)).up (by simp) (by decide)
  exact ⟨_, _, rfl, by rw [hv, toR, toRs, feed_r, toRs, feed_r]; rfl, n.sh, Nat.le_trans n.dep (by decide), Nat.le_trans n.len (by decide), hq⟩
theorem ne_feed {M : MS} {fd : List (List Int)} (few : fd.length ≤ 3) (h : ∀ r ∈ fd, drawn r) {q : D → Prop} (hq : q (.bl false)) : neE M (.tup (fd.map rowD)) (.tup (fd.map rowD)) q := by
  have n := feed_nice few h
  refine ⟨_, _, feed_py fd, feed_py fd, n.shaped (by decide), n.shaped (by decide), ?_⟩
  have : fineP (.tuple (fd.map pyR)) = true := by rw [fineP]; exact rows_fine fd
  rw [(eqv_eq _ _ this this).mpr rfl]
  exact hq
theorem eq_low {M : MS} {xs : List Nat} (few : xs.length ≤ 3) (h : ∀ i ∈ xs, i < 3) {q : D → Prop} (hq : q (.bl xs.isEmpty)) : eqD M (.lst (xs.map fun i : Nat => D.int i)) (.lst []) q := by
  have n : Nice (.list (xs.map fun i : Nat => PyData.int i)) 100 1 := (Nice.list (b := 14) (n := 0) fun x hx => by
    obtain ⟨i, hi, rfl⟩ := List.mem_map.mp hx
    have := h i hi
    exact Nice.wide (by omega) (by omega)).up (by rw [List.length_map]; omega) (by decide)
  have e : toPys (xs.map fun i : Nat => D.int i) = some (xs.map fun i : Nat => PyData.int i) := py_map (fun _ => rfl) xs
  refine ⟨_, _, by show (toPys _).map PyData.list = _; rw [e]; rfl, rfl, n.shaped (by decide), rfl, ?_⟩
  have f1 : fineP (.list (xs.map fun i : Nat => PyData.int i)) = true := by
    rw [fineP]
    have := ints_fine (xs.map fun i : Nat => (i : Int))
    rwa [List.map_map] at this
  have f2 := eqv_eq (.list (xs.map fun i : Nat => PyData.int i)) (.list []) f1 rfl
  cases xs with
  | nil => exact hq
  | cons x xs =>
    have : PyData.eqv (.list ((x :: xs).map fun i : Nat => PyData.int i)) (.list []) = false := by
      cases z : PyData.eqv (.list ((x :: xs).map fun i : Nat => PyData.int i)) (.list []) with
      | false => rfl
      | true => exact absurd (f2.mp z) (by simp)
    rw [this]
    exact hq
end K08

set_option Elab.async false
set_option linter.all false
set_option maxRecDepth 100000
set_option maxHeartbeats 4000000
namespace K08
open PySem PySem.Spec PyProof.Rows L2 TV
section
variable {P : Program} {w : World} {K : PySem.W.Frag} {mg : Str → Option Value} {base : Heap}
theorem cut1 {A R : DS} {E : DEnds} {ρ : DSt} {M : MS} {x : XD} (I : DSt → MS → Prop) (h1 : ∀ R' : DS, (∀ ρ' M', I ρ' M' → R' E ρ' M' x) → wSeq A R' E ρ M x) (h2 : ∀ ρ' M', I ρ' M' → R E ρ' M' x) : wSeq A R E ρ M x := h1 R h2
def Pen (p : Addr) (n : Nat) (M : MS) : Prop := ∃ es, M p = some (.dct es) ∧ penD n es
/-- the law's state -/
def L20 (cs : List Int) (p : Addr) (r : List (Option D)) : DSt := some (.fro (cs.map D.int)) :: some (.obj p) :: r
theorem forN {g : Nat} {n : Int} {m : Nat} (hn : n.toNat = m) (hm : n < 1000) (h0 : 0 ≤ n) {body R : DS} {E : DEnds} {ρ : DSt} {M : MS} {x : XD} (Pv : Nat → DSt → MS → Prop) (p0 : Pv 0 ρ M) (step : ∀ i ρ' M' (E2 : DEnds), i < m → Pv i ρ' M' → (∀ ρ2 M2, Pv (i + 1) ρ2 M2 → E2.nx ρ2 M2) → (∀ d M2, E2.rt d M2 = E.rt d M2) → body E2 (ρ'.set g (some (.int i))) M' x) (fin : ∀ ρ' M', Pv m ρ' M' → R E ρ' M' x) :
    wSeq (wFor (wiR1 (wCons (wC (.int n)) wNil)) (wgName g) body) R E ρ M x := by
  subst hn
  simp only [TV.wSeq, TV.wIf, TV.wOr, TV.wNot, TV.wAnd, TV.wAndV, TV.wOrV, TV.wNotV, TV.wIfE, TV.wTru, TV.wCB, TV.wCons, TV.wVar, TV.wC, TV.wNil, TV.wTest, TV.wChain, TV.wRet, TV.wRetN, TV.wNext, TV.wSet, TV.wDrop, TV.wFrz, TV.wMut, TV.wDisp, TV.wTup, TV.wOp, TV.wCall, TV.wDget, TV.wDput, TV.wFor, TV.wLc, TV.wiL, TV.wiT, TV.wiS, TV.wiR1, TV.wiR2, TV.wiEnumS, TV.wiEnum, TV.wgName, TV.wgTup, TV.wgCons, TV.wgNil, TV.wPar, TV.wPar3, TV.wAsg, TV.wUn, TV.wBM, TV.wApp, TV.wSetI, TV.wListC, TV.wSlL, TV.wSlS, TV.wSlT, TV.wNo, TV.wPart, TV.wYes, TV.wRev, TV.wMelt, TV.wNever, TV.wipe0, TV.wDictM, TV.wDictF, TV.wDict0F, TV.wPairs, List.getElem?_cons_zero, List.getElem?_cons_succ, List.set_cons_zero, List.set_cons_succ, Option.some.injEq, exists_eq_left', exists_eq_left, List.cons.injEq, and_true, true_and, TV.D.str.injEq, TV.D.int.injEq, TV.D.bl.injEq, TV.D.lst.injEq, TV.D.tup.injEq, TV.D.obj.injEq, List.map_cons, List.map_nil, TV.cmpD, TV.subD, TV.intD, TV.inSD, TV.ninSD, TV.isND, TV.notND, TV.isBD, TV.divmodC, TV.absC, isiC', TV.len_str, TV.len_lst, TV.len_tup, TV.tru_bl, TV.tru_int, TV.tru_str, TV.tru_lst, TV.tru_tup, TV.add_int, TV.add_str, TV.add_lst, TV.add_tup, TV.mul_int, TV.mul_str, TV.ix_str, TV.ix_lst, TV.ix_tup, TV.count_str, TV.eq_str, TV.ne_str, TV.eq_int, TV.ne_int, TV.eq_lst, TV.ne_lst, TV.sgx, TV.vw_non, TV.vw_bl, TV.vw_int, TV.vw_str, TV.vw_tup, TV.vw_lst, TV.vw_fro, TV.vw_dct, TV.key_str, TV.key_int, false_or, or_false, List.length_nil, TV.ty_non, TV.ty_bl, TV.ty_int, TV.ty_str, TV.ty_tup, TV.ty_lst, TV.ty_dct, TV.tn_str, TV.tn_int, TV.tn_bool, TV.tn_list, TV.tn_tuple, TV.tn_dict, TV.isT, String.reduceBEq, Bool.and_false, Bool.or_false, Bool.false_and, Bool.and_true, Bool.true_or, Bool.or_true, and_assoc, TV.D.ty.injEq, reduceCtorEq, exists_const, exists_and_left, exists_and_right, if_true, if_false, Bool.not_true, Bool.not_false, Bool.false_eq_true, reduceIte, TV.wExt, TV.wPop, TV.wPopAt, TV.wChg, TV.wAny, TV.wAug, TV.wWhile, TV.kgetD, TV.kinD, TV.wLenSet, TV.wLenO, TV.wEqO, TV.wMakeF, TV.wMeth, TV.wFld, TV.wSetF, TV.sumC, TV.minC, TV.maxC, TV.lcmC, TV.isiO, TV.wLc2, TV.wSlT, TV.wIsiT, List.append_nil, TV.wEither, TV.wGet2, TV.wDict1, TV.wDictZip, TV.sumIC, TV.wiZip, TV.wCallL, TV.mulTD]
  refine ⟨by omega, by omega, Pv, p0, ?_, ?_⟩
  · rintro i d ρ' M' he pv
    obtain ⟨hi, rfl⟩ := rng_get he
    rw [Int.zero_add]
    exact step i ρ' M' _ hi pv (fun ρ2 M2 h => h) fun d M2 => rfl
  · rintro ρ' M' pv
    rw [rng_len] at pv
    exact fin ρ' M' pv
theorem pen_draw {p : Addr} {n : Nat} {M : MS} {m : Int} {x : XD} {k : KD} (h : Pen p n M) (hn : n < 1000000) (h1 : 1 ≤ m) (h2 : m < 2 ^ 1000) (hk : ∀ r M', 0 ≤ r → r < m → Pen p (n + 1) M' → k (.int r) M') : sp__law_draw [.obj p, .int m] M x k := by
  obtain ⟨es, e1, e2⟩ := h
  exact ⟨rfl, p, m, n, es, rfl, e1, e2, hn, h1, h2, fun r es' a b c => hk r _ a b ⟨es', updM_at, c⟩⟩
theorem Pen.up {p : Addr} {n m : Nat} {M : MS} (h : Pen p n M) (l : n ≤ m) : Pen p m M := by
  obtain ⟨es, e1, e2⟩ := h
  exact ⟨es, e1, e2.up l⟩
theorem Pen.old {p q : Addr} {n : Nat} {M : MS} {m : MO} (h : Pen p n M) (hq : M q = none) : Pen p n (updM M q m) := by
  obtain ⟨es, e1, e2⟩ := h
  exact ⟨es, by rw [updM_ne (fun e => by rw [e, hq] at e1; cases e1)]; exact e1, e2⟩
theorem atN {α : Type} {l : List α} {j : Nat} {c : α} (h : l[j]? = some c) : atI l (0 + (j : Int)) = some c := by
  obtain ⟨c', e1, e2⟩ := atI_in (l := l) (i := 0 + (j : Int)) (by omega) (by have := (List.getElem?_eq_some_iff.mp h).1; omega)
  rw [show (0 + (j : Int)).toNat = j by omega, h] at e1
  rw [e2, Option.some.inj e1]
theorem beat3 {b1 b2 : Nat} (l1 : b1 ≤ 60) (l2 : b2 ≤ 60) {i : Nat} {d : D} (h : [D.int b1, D.int b2, D.int 0][i]? = some d) : ∃ m : Nat, m ≤ 60 ∧ d = .int m := by
  match i, h with
  | 0, h => exact ⟨b1, l1, (Option.some.inj h).symm⟩
  | 1, h => exact ⟨b2, l2, (Option.some.inj h).symm⟩
  | 2, h => exact ⟨0, by omega, (Option.some.inj h).symm⟩
theorem ten60 : (600 : Int) + 10 ≤ 10 ^ 60 ∧ (10 : Int) ^ 60 < 2 ^ 1000 := by decide +kernel
theorem far2 {v : Int} (v0 : 0 ≤ v) (v1 : v < 9) {i : Nat} {d : D} (h : [D.int (10 ^ Int.toNat 60), D.int (10 ^ Int.toNat 60 - 1 - v)][i]? = some d) : ∃ f : Int, 600 ≤ f ∧ f < 2 ^ 1000 ∧ d = .int f := by
  have t := ten60
  have e : (10 : Int) ^ Int.toNat 60 = 10 ^ 60 := rfl
  rw [e] at h
  generalize (10 : Int) ^ 60 = z at *
  generalize (2 : Int) ^ 1000 = y at *
  match i, h with
  | 0, h => exact ⟨_, by omega, by omega, (Option.some.inj h).symm⟩
  | 1, h => exact ⟨_, by omega, by omega, (Option.some.inj h).symm⟩
/-- over the three beats -/
theorem forB {g j : Nat} {b1 b2 : Nat} (l1 : b1 ≤ 60) (l2 : b2 ≤ 60) {body R : DS} {E : DEnds} {ρ : DSt} {M : MS} {x : XD} {I : DSt → MS → Prop} (hj : ρ[j]? = some (some (.lst [.int b1, .int b2, .int 0]))) (p0 : I ρ M) (step : ∀ (b : Nat) ρ' M' (E2 : DEnds), b ≤ 60 → I ρ' M' → (∀ ρ2 M2, I ρ2 M2 → E2.nx ρ2 M2) → (∀ d M2, E2.rt d M2 = E.rt d M2) → body E2 (ρ'.set g (some (.int b))) M' x) (fin : ∀ ρ' M', I ρ' M' → R E ρ' M' x) :
    wSeq (wFor (wiL (wVar j)) (wgName g) body) R E ρ M x := by
  simp only [TV.wSeq, TV.wIf, TV.wOr, TV.wNot, TV.wAnd, TV.wAndV, TV.wOrV, TV.wNotV, TV.wIfE, TV.wTru, TV.wCB, TV.wCons, TV.wVar, TV.wC, TV.wNil, TV.wTest, TV.wChain, TV.wRet, TV.wRetN, TV.wNext, TV.wSet, TV.wDrop, TV.wFrz, TV.wMut, TV.wDisp, TV.wTup, TV.wOp, TV.wCall, TV.wDget, TV.wDput, TV.wFor, TV.wLc, TV.wiL, TV.wiT, TV.wiS, TV.wiR1, TV.wiR2, TV.wiEnumS, TV.wiEnum, TV.wgName, TV.wgTup, TV.wgCons, TV.wgNil, TV.wPar, TV.wPar3, TV.wAsg, TV.wUn, TV.wBM, TV.wApp, TV.wSetI, TV.wListC, TV.wSlL, TV.wSlS, TV.wSlT, TV.wNo, TV.wPart, TV.wYes, TV.wRev, TV.wMelt, TV.wNever, TV.wipe0, TV.wDictM, TV.wDictF, TV.wDict0F, TV.wPairs, List.getElem?_cons_zero, List.getElem?_cons_succ, List.set_cons_zero, List.set_cons_succ, Option.some.injEq, exists_eq_left', exists_eq_left, List.cons.injEq, and_true, true_and, TV.D.str.injEq, TV.D.int.injEq, TV.D.bl.injEq, TV.D.lst.injEq, TV.D.tup.injEq, TV.D.obj.injEq, List.map_cons, List.map_nil, TV.cmpD, TV.subD, TV.intD, TV.inSD, TV.ninSD, TV.isND, TV.notND, TV.isBD, TV.divmodC, TV.absC, isiC', TV.len_str, TV.len_lst, TV.len_tup, TV.tru_bl, TV.tru_int, TV.tru_str, TV.tru_lst, TV.tru_tup, TV.add_int, TV.add_str, TV.add_lst, TV.add_tup, TV.mul_int, TV.mul_str, TV.ix_str, TV.ix_lst, TV.ix_tup, TV.count_str, TV.eq_str, TV.ne_str, TV.eq_int, TV.ne_int, TV.eq_lst, TV.ne_lst, TV.sgx, TV.vw_non, TV.vw_bl, TV.vw_int, TV.vw_str, TV.vw_tup, TV.vw_lst, TV.vw_fro, TV.vw_dct, TV.key_str, TV.key_int, false_or, or_false, List.length_nil, TV.ty_non, TV.ty_bl, TV.ty_int, TV.ty_str, TV.ty_tup, TV.ty_lst, TV.ty_dct, TV.tn_str, TV.tn_int, TV.tn_bool, TV.tn_list, TV.tn_tuple, TV.tn_dict, TV.isT, String.reduceBEq, Bool.and_false, Bool.or_false, Bool.false_and, Bool.and_true, Bool.true_or, Bool.or_true, and_assoc, TV.D.ty.injEq, reduceCtorEq, exists_const, exists_and_left, exists_and_right, if_true, if_false, Bool.not_true, Bool.not_false, Bool.false_eq_true, reduceIte, TV.wExt, TV.wPop, TV.wPopAt, TV.wChg, TV.wAny, TV.wAug, TV.wWhile, TV.kgetD, TV.kinD, TV.wLenSet, TV.wLenO, TV.wEqO, TV.wMakeF, TV.wMeth, TV.wFld, TV.wSetF, TV.sumC, TV.minC, TV.maxC, TV.lcmC, TV.isiO, TV.wLc2, TV.wSlT, TV.wIsiT, List.append_nil, TV.wEither, TV.wGet2, TV.wDict1, TV.wDictZip, TV.sumIC, TV.wiZip, TV.wCallL, TV.mulTD]
  refine ⟨_, hj, _, rfl, fun _ => I, p0, ?_, fun ρ' M' h => ⟨rfl, fin ρ' M' h⟩⟩
  intro i d ρ' M' he h
  refine ⟨rfl, ?_⟩
  have go : ∀ b : Nat, b ≤ 60 → d = .int b → body { nx := I, rt := E.rt, bk := fun ρ' M' => R E ρ' M' x, ct := I } (ρ'.set g (some d)) M' x := fun b hb e => by
    subst e
    exact step b ρ' M' _ hb h (fun _ _ h => h) fun _ _ => rfl
  match i, he with
  | 0, he => exact go b1 l1 (Option.some.inj he).symm
  | 1, he => exact go b2 l2 (Option.some.inj he).symm
  | 2, he => exact go 0 (by omega) (Option.some.inj he).symm
def sp_law : DSp := fun ds M _ k => ds.length = 1 ∧ ∃ cs : List Int, ds = [.fro (cs.map D.int)] ∧ k (.bl true) (fun _ => none)
theorem ok_law (T : Tx w K mg) : FnG P w K mg base CX0 11 T.f_law T.e_law ["_law_script"] (rSp K sp_law) := by
  refine fnTW T.d_law.fn sc_law (fun ds M x k h => h.1) (by decide) (fun cdv A outer s H E rm => ?_) (fun ds M x k h => h)
  refine ⟨_, (yss_cons (ys_set (i := 1) sc_law.nd rfl (by first | exact Or.inl rfl | exact Or.inr rfl) (xcall (ok__law_pen T) (rm.mono (by decide)) (by rfl) T.d__law_pen.gl T.d__law_pen.fn.kp T.d__law_pen.bi pass0 (xa_cons (xv 0) xa_nil)))
      (yss_cons (ys_for PassesOwn.never rfl (xi_range1 (by rfl) T.m_range (xa_cons xint xa_nil)) (xg_name (i := 2) sc_law.nd rfl (by first | exact Or.inl rfl | exact Or.inr rfl)) (yss_cons (ys_asg (xcall (ok__law_web T) (rm.mono (by decide)) (by rfl) T.d__law_web.gl T.d__law_web.fn.kp T.d__law_web.bi pass0 (xa_cons (xv 1) (xa_cons xint xa_nil))) (xg_tup rfl (xgs_cons (xg_name (i := 3) sc_law.nd rfl (by first | exact Or.inl rfl | exact Or.inr rfl)) (xgs_cons (xg_name (i := 4) sc_law.nd rfl (by first | exact Or.inl rfl | exact Or.inr rfl)) xgs_nil))))
      (yss_cons (ys_par (i := 5) (j := 6) rfl sc_law.nd rfl rfl (by decide) rfl rfl (xa_cons (xmakeF (dds := []) T.mk_Web (ok_Web___init__ T) (rm.mono (by decide)) (by rfl) T.g_Web T.d_Web___init__.bi .nil (fun _ => .nil) pass0 (xa_cons (xv 3) (xa_cons (xv 4) xa_nil))) (xa_cons (xl_frz (xl_lst (xa_cons (xcall (ok__law_draw T) (rm.mono (by decide)) (by rfl) T.d__law_draw.gl T.d__law_draw.fn.kp T.d__law_draw.bi pass0 (xa_cons (xv 1) (xa_cons xint xa_nil))) (xa_cons (xcall (ok__law_draw T) (rm.mono (by decide)) (by rfl) T.d__law_draw.gl T.d__law_draw.fn.kp T.d__law_draw.bi pass0 (xa_cons (xv 1) (xa_cons xint xa_nil))) (xa_cons xint xa_nil))))) xa_nil)) (by rfl))
      (yss_cons (ys_set (i := 7) sc_law.nd rfl (by first | exact Or.inl rfl | exact Or.inr rfl) (xcall (ok__law_feed T) (rm.mono (by decide)) (by rfl) T.d__law_feed.gl T.d__law_feed.fn.kp T.d__law_feed.bi pass0 (xa_cons (xv 1) (xa_cons (xv 3) (xa_cons (xcall (ok__law_draw T) (rm.mono (by decide)) (by rfl) T.d__law_draw.gl T.d__law_draw.fn.kp T.d__law_draw.bi pass0 (xa_cons (xv 1) (xa_cons xint xa_nil))) (xa_cons xbl xa_nil))))))
      (yss_cons (ys_for PassesOwn.never rfl (xi_list (xv 6)) (xg_name (i := 8) sc_law.nd rfl (by first | exact Or.inl rfl | exact Or.inr rfl)) (yss_cons (ys_set (i := 9) sc_law.nd rfl (by first | exact Or.inl rfl | exact Or.inr rfl) (xcall (ok__law_inputs T) (rm.mono (by decide)) (by rfl) T.d__law_inputs.gl T.d__law_inputs.fn.kp T.d__law_inputs.bi pass0 (xa_cons (xv 3) (xa_cons (xv 8) xa_nil))))
      (yss_cons (ys_for PassesOwn.never rfl (xi_range1 (by rfl) T.m_range (xa_cons xint xa_nil)) (xg_name (i := 10) sc_law.nd rfl (by first | exact Or.inl rfl | exact Or.inr rfl)) (yss_cons (ys_set (i := 11) sc_law.nd rfl (by first | exact Or.inl rfl | exact Or.inr rfl) (xcall (ok_inputs T) (rm.mono (by decide)) (by rfl) T.d_inputs.gl T.d_inputs.fn.kp T.d_inputs.bi pass0 (xa_cons (xv 5) (xa_cons (xv 8) xa_nil))))
      (yss_cons (ys_if (xt_cmp (op_neE rm.u64) l_neE (xe_callB (call_repr rm) l_reprC (by rfl) T.m_repr (by decide +kernel) (xa_cons (xv 11) xa_nil)) (xe_callB (call_repr rm) l_reprC (by rfl) T.m_repr (by decide +kernel) (xa_cons (xv 9) xa_nil)) (nomark _)) (yss_one (ys_ret xbl)) yss_nil)
      (yss_one (ys_expr (xe_append (xv 11) (xe_tup (xa_cons xint (xa_cons xint xa_nil)))))))))
      (yss_cons (ys_set (i := 12) sc_law.nd rfl (by first | exact Or.inl rfl | exact Or.inr rfl) (xl_frz (xl_lc (own := [("_law_at", 17)]) (g := gName 17) rfl sc_law.nd (xi_range1 (by rfl) T.m_range (xa_cons (xe_callB call_lenD' l_lenC (by rfl) T.m_len (by decide +kernel) (xa_cons (xv 3) xa_nil)) xa_nil)) (blkOk_by (N := ["_law_script", "_law_pen_here", "_law_turn", "_law_inlets", "_law_gates", "_law_web_here", "_law_beats", "_law_feed_here", "_law_beat", "_law_due", "_law_again", "_law_told", "_law_rows", "_law_less", "_law_is_all", "_law_more", "_law_far", "_law_at", "_law_k", "_law_number"]) (sc := defScope s_law) (by decide +kernel)) (tg_name (by decide)) (fun _ _ _ _ _ => pg_name (i := 17) sc_law.nd rfl (by first | exact Or.inl rfl | exact Or.inr rfl)) (fun _ _ _ _ _ => xts_nil) (fun _ _ _ _ _ => (xl_frz (xl_lc (own := [("_law_k", 18), ("_law_number", 19)]) (g := gTup K 2 (gCons (gName 18) (gCons (gName 19) (gNil)))) rfl sc_law.nd (xi_list (xv 9)) (blkOk_by (N := ["_law_script", "_law_pen_here", "_law_turn", "_law_inlets", "_law_gates", "_law_web_here", "_law_beats", "_law_feed_here", "_law_beat", "_law_due", "_law_again", "_law_told", "_law_rows", "_law_less", "_law_is_all", "_law_more", "_law_far", "_law_at", "_law_k", "_law_number"]) (sc := relS _ (defScope s_law)) (by decide +kernel)) (tg_tup2 (by decide) (by decide)) (fun _ _ _ _ _ => pg_tup rfl (pgs_cons (pg_name (i := 18) sc_law.nd rfl (by first | exact Or.inl rfl | exact Or.inr rfl)) (pgs_cons (pg_name (i := 19) sc_law.nd rfl (by first | exact Or.inl rfl | exact Or.inr rfl)) pgs_nil))) (fun _ _ _ _ _ => xts_one (xt_cmp (op_eqE rm.u64) l_eqE (xv 18) (xv 17) (nomark _))) (fun _ _ _ _ _ => (xv 19))))))))
      (yss_cons (ys_set (i := 13) sc_law.nd rfl (by first | exact Or.inl rfl | exact Or.inr rfl) (xe_callTy call_tuple_of l_tupleC (by rfl) T.m_tuple (by decide +kernel) (xa_cons (xl_frz (xl_lc (own := [("_law_k", 18)]) (g := gName 18) rfl sc_law.nd (xi_range1 (by rfl) T.m_range (xa_cons (xe_callB call_lenD' l_lenC (by rfl) T.m_len (by decide +kernel) (xa_cons (xv 3) xa_nil)) xa_nil)) (blkOk_by (N := ["_law_script", "_law_pen_here", "_law_turn", "_law_inlets", "_law_gates", "_law_web_here", "_law_beats", "_law_feed_here", "_law_beat", "_law_due", "_law_again", "_law_told", "_law_rows", "_law_less", "_law_is_all", "_law_more", "_law_far", "_law_at", "_law_k", "_law_number"]) (sc := defScope s_law) (by decide +kernel)) (tg_name (by decide)) (fun _ _ _ _ _ => pg_name (i := 18) sc_law.nd rfl (by first | exact Or.inl rfl | exact Or.inr rfl)) (fun _ _ _ _ _ => xts_nil) (fun _ _ _ _ _ => (xe_sliceT (xe_ix (xv 7) (xv 18) (fun _ _ => rfl)) xo_none (xo_some (xe_callB call_lenD' l_lenC (by rfl) T.m_len (by decide +kernel) (xa_cons (xe_ix (xv 12) (xv 18) (fun _ _ => rfl)) xa_nil))))))) xa_nil)))
      (yss_cons (ys_set (i := 14) sc_law.nd rfl (by first | exact Or.inl rfl | exact Or.inr rfl) (xe_cmp (op_eqE rm.u64) l_eqE (xl_frz (xl_lc (own := [("_law_k", 18)]) (g := gName 18) rfl sc_law.nd (xi_range1 (by rfl) T.m_range (xa_cons (xe_callB call_lenD' l_lenC (by rfl) T.m_len (by decide +kernel) (xa_cons (xv 3) xa_nil)) xa_nil)) (blkOk_by (N := ["_law_script", "_law_pen_here", "_law_turn", "_law_inlets", "_law_gates", "_law_web_here", "_law_beats", "_law_feed_here", "_law_beat", "_law_due", "_law_again", "_law_told", "_law_rows", "_law_less", "_law_is_all", "_law_more", "_law_far", "_law_at", "_law_k", "_law_number"]) (sc := defScope s_law) (by decide +kernel)) (tg_name (by decide)) (fun _ _ _ _ _ => pg_name (i := 18) sc_law.nd rfl (by first | exact Or.inl rfl | exact Or.inr rfl)) (fun _ _ _ _ _ => xts_one (xt_cmp op_lt l_cmpD (xe_callB call_lenD' l_lenC (by rfl) T.m_len (by decide +kernel) (xa_cons (xe_ix (xv 7) (xv 18) (fun _ _ => rfl)) xa_nil)) (xe_callB call_lenD' l_lenC (by rfl) T.m_len (by decide +kernel) (xa_cons (xe_ix (xv 12) (xv 18) (fun _ _ => rfl)) xa_nil)) (nomark _))) (fun _ _ _ _ _ => (xv 18)))) (xl_frz (xl_lst xa_nil)) (nomark _)))
      (yss_cons (ys_if (xt_cmp (op_neE rm.u64) l_neE (xe_callB (call_repr rm) l_reprC (by rfl) T.m_repr (by decide +kernel) (xa_cons (xl_frz (xl_lst (xa_cons (xcall (ok_cut T) (rm.mono (by decide)) (by rfl) T.d_cut.gl T.d_cut.fn.kp T.d_cut.bi pass0 (xa_cons (xv 5) (xa_cons (xv 7) (xa_cons (xv 8) xa_nil)))) (xa_cons (xcall (ok_is_endless T) (rm.mono (by decide)) (by rfl) T.d_is_endless.gl T.d_is_endless.fn.kp T.d_is_endless.bi pass0 (xa_cons (xv 5) (xa_cons (xl_frz (xl_list (by rfl) T.m_list (xa_cons (xv 7) xa_nil))) (xa_cons (xv 8) xa_nil)))) xa_nil)))) xa_nil)) (xe_callB (call_repr rm) l_reprC (by rfl) T.m_repr (by decide +kernel) (xa_cons (xl_frz (xl_lst (xa_cons (xv 13) (xa_cons (xv 14) xa_nil)))) xa_nil)) (nomark _)) (yss_one (ys_ret xbl)) yss_nil)
      (yss_one (ys_for PassesOwn.never rfl (xi_list (xv 6)) (xg_name (i := 15) sc_law.nd rfl (by first | exact Or.inl rfl | exact Or.inr rfl)) (yss_one (ys_if (xt_cmp (op_neE rm.u64) l_neE (xcall (ok_cut T) (rm.mono (by decide)) (by rfl) T.d_cut.gl T.d_cut.fn.kp T.d_cut.bi pass0 (xa_cons (xv 5) (xa_cons (xcall (ok_cut T) (rm.mono (by decide)) (by rfl) T.d_cut.gl T.d_cut.fn.kp T.d_cut.bi pass0 (xa_cons (xv 5) (xa_cons (xv 7) (xa_cons (xv 8) xa_nil)))) (xa_cons (xv 15) xa_nil)))) (xcall (ok_cut T) (rm.mono (by decide)) (by rfl) T.d_cut.gl T.d_cut.fn.kp T.d_cut.bi pass0 (xa_cons (xv 5) (xa_cons (xv 7) (xa_cons (xe_callB (call_min2 rfl) l_minC (by rfl) T.m_min (by decide +kernel) (xa_cons (xv 8) (xa_cons (xv 15) xa_nil))) xa_nil)))) (nomark _)) (yss_one (ys_ret xbl)) yss_nil)))))))))))
      (yss_cons (ys_for PassesOwn.never rfl (xi_tup (xe_tup (xa_cons (xe_op op_pow l_intD xint xint) (xa_cons (xe_op op_sub l_subD (xe_op op_sub l_subD (xe_op op_pow l_intD xint xint) xint) (xcall (ok__law_draw T) (rm.mono (by decide)) (by rfl) T.d__law_draw.gl T.d__law_draw.fn.kp T.d__law_draw.bi pass0 (xa_cons (xv 1) (xa_cons xint xa_nil)))) xa_nil)))) (xg_name (i := 16) sc_law.nd rfl (by first | exact Or.inl rfl | exact Or.inr rfl)) (yss_cons (ys_set (i := 11) sc_law.nd rfl (by first | exact Or.inl rfl | exact Or.inr rfl) (xl_mut (xl_lst (xa_cons (xcall (ok_cut T) (rm.mono (by decide)) (by rfl) T.d_cut.gl T.d_cut.fn.kp T.d_cut.bi pass0 (xa_cons (xv 5) (xa_cons (xv 7) (xa_cons (xv 16) xa_nil)))) (xa_cons (xcall (ok_left T) (rm.mono (by decide)) (by rfl) T.d_left.gl T.d_left.fn.kp T.d_left.bi pass0 (xa_cons (xv 5) (xa_cons (xv 7) (xa_cons (xv 16) xa_nil)))) (xa_cons (xcall (ok_is_endless T) (rm.mono (by decide)) (by rfl) T.d_is_endless.gl T.d_is_endless.fn.kp T.d_is_endless.bi pass0 (xa_cons (xv 5) (xa_cons (xv 7) (xa_cons (xv 16) xa_nil)))) xa_nil))))))
      (yss_one (ys_if (xt_cmp (op_neE rm.u64) l_neE (xe_callB (call_repr rm) l_reprC (by rfl) T.m_repr (by decide +kernel) (xa_cons (xv 11) xa_nil)) (xe_callB (call_repr rm) l_reprC (by rfl) T.m_repr (by decide +kernel) (xa_cons (xl_frz (xl_lst (xa_cons (xv 7) (xa_cons (xe_op op_mulTD l_mulTD (xe_tup (xa_cons (xe_tup xa_nil) xa_nil)) (xe_callB call_lenD' l_lenC (by rfl) T.m_len (by decide +kernel) (xa_cons (xv 3) xa_nil))) (xa_cons xbl xa_nil))))) xa_nil)) (nomark _)) (yss_one (ys_ret xbl)) yss_nil))))
      (yss_one (ys_if (xt_cmp (op_neE rm.u64) l_neE (xe_callB (call_repr rm) l_reprC (by rfl) T.m_repr (by decide +kernel) (xa_cons (xcall (ok_inputs T) (rm.mono (by decide)) (by rfl) T.d_inputs.gl T.d_inputs.fn.kp T.d_inputs.bi pass0 (xa_cons (xv 5) (xa_cons xint xa_nil))) xa_nil)) (xe_callB (call_repr rm) l_reprC (by rfl) T.m_repr (by decide +kernel) (xa_cons (xcall (ok__law_inputs T) (rm.mono (by decide)) (by rfl) T.d__law_inputs.gl T.d__law_inputs.fn.kp T.d__law_inputs.bi pass0 (xa_cons (xv 3) (xa_cons xint xa_nil))) xa_nil)) (nomark _)) (yss_one (ys_ret xbl)) yss_nil))))))))
      (yss_one (ys_ret xbl)))), ?_⟩
  intro ds M k h
  obtain ⟨-, cs, rfl, hk⟩ := h
  rw [show start0 ["_law_script", "_law_pen_here", "_law_turn", "_law_inlets", "_law_gates", "_law_web_here", "_law_beats", "_law_feed_here", "_law_beat", "_law_due", "_law_again", "_law_told", "_law_rows", "_law_less", "_law_is_all", "_law_more", "_law_far", "_law_at", "_law_k", "_law_number"] [D.fro (cs.map D.int)] = [some (.fro (cs.map D.int)), none, none, none, none, none, none, none, none, none, none, none, none, none, none, none, none, none, none, none] from rfl]
  refine cut1 (fun ρ' M' => ∃ p, Pen p 0 M' ∧ ρ' = [some (.fro (cs.map D.int)), some (.obj p), none, none, none, none, none, none, none, none, none, none, none, none, none, none, none, none, none, none]) ?_ ?_
  · intro R hR
    simp only [TV.wSeq, TV.wIf, TV.wOr, TV.wNot, TV.wAnd, TV.wAndV, TV.wOrV, TV.wNotV, TV.wIfE, TV.wTru, TV.wCB, TV.wCons, TV.wVar, TV.wC, TV.wNil, TV.wTest, TV.wChain, TV.wRet, TV.wRetN, TV.wNext, TV.wSet, TV.wDrop, TV.wFrz, TV.wMut, TV.wDisp, TV.wTup, TV.wOp, TV.wCall, TV.wDget, TV.wDput, TV.wFor, TV.wLc, TV.wiL, TV.wiT, TV.wiS, TV.wiR1, TV.wiR2, TV.wiEnumS, TV.wiEnum, TV.wgName, TV.wgTup, TV.wgCons, TV.wgNil, TV.wPar, TV.wPar3, TV.wAsg, TV.wUn, TV.wBM, TV.wApp, TV.wSetI, TV.wListC, TV.wSlL, TV.wSlS, TV.wSlT, TV.wNo, TV.wPart, TV.wYes, TV.wRev, TV.wMelt, TV.wNever, TV.wipe0, TV.wDictM, TV.wDictF, TV.wDict0F, TV.wPairs, List.getElem?_cons_zero, List.getElem?_cons_succ, List.set_cons_zero, List.set_cons_succ, Option.some.injEq, exists_eq_left', exists_eq_left, List.cons.injEq, and_true, true_and, TV.D.str.injEq, TV.D.int.injEq, TV.D.bl.injEq, TV.D.lst.injEq, TV.D.tup.injEq, TV.D.obj.injEq, List.map_cons, List.map_nil, TV.cmpD, TV.subD, TV.intD, TV.inSD, TV.ninSD, TV.isND, TV.notND, TV.isBD, TV.divmodC, TV.absC, isiC', TV.len_str, TV.len_lst, TV.len_tup, TV.tru_bl, TV.tru_int, TV.tru_str, TV.tru_lst, TV.tru_tup, TV.add_int, TV.add_str, TV.add_lst, TV.add_tup, TV.mul_int, TV.mul_str, TV.ix_str, TV.ix_lst, TV.ix_tup, TV.count_str, TV.eq_str, TV.ne_str, TV.eq_int, TV.ne_int, TV.eq_lst, TV.ne_lst, TV.sgx, TV.vw_non, TV.vw_bl, TV.vw_int, TV.vw_str, TV.vw_tup, TV.vw_lst, TV.vw_fro, TV.vw_dct, TV.key_str, TV.key_int, false_or, or_false, List.length_nil, TV.ty_non, TV.ty_bl, TV.ty_int, TV.ty_str, TV.ty_tup, TV.ty_lst, TV.ty_dct, TV.tn_str, TV.tn_int, TV.tn_bool, TV.tn_list, TV.tn_tuple, TV.tn_dict, TV.isT, String.reduceBEq, Bool.and_false, Bool.or_false, Bool.false_and, Bool.and_true, Bool.true_or, Bool.or_true, and_assoc, TV.D.ty.injEq, reduceCtorEq, exists_const, exists_and_left, exists_and_right, if_true, if_false, Bool.not_true, Bool.not_false, Bool.false_eq_true, reduceIte, TV.wExt, TV.wPop, TV.wPopAt, TV.wChg, TV.wAny, TV.wAug, TV.wWhile, TV.kgetD, TV.kinD, TV.wLenSet, TV.wLenO, TV.wEqO, TV.wMakeF, TV.wMeth, TV.wFld, TV.wSetF, TV.sumC, TV.minC, TV.maxC, TV.lcmC, TV.isiO, TV.wLc2, TV.wSlT, TV.wIsiT, List.append_nil, TV.wEither, TV.wGet2, TV.wDict1, TV.wDictZip, TV.sumIC, TV.wiZip, TV.wCallL, TV.mulTD]
    exact ⟨rfl, cs, rfl, fun p es hp pe => hR _ _ ⟨p, ⟨es, updM_at, pe⟩, rfl⟩⟩
  rintro ρ1 M1 ⟨p, pen0, rfl⟩
  refine forN (m := 4) rfl (by decide) (by decide) (fun i ρ' M' => ∃ (r : List (Option D)), r.length = 18 ∧ Pen p (1000 * i) M' ∧ ρ' = some (.fro (cs.map D.int)) :: some (.obj p) :: r)
    ⟨[none, none, none, none, none, none, none, none, none, none, none, none, none, none, none, none, none, none], rfl, pen0, rfl⟩ ?_ ?_
  · rintro i ρ' M3 E2 hi ⟨r, rl, pen, rfl⟩ hE hrt
    obtain ⟨d2, d3, d4, d5, d6, d7, d8, d9, d10, d11, d12, d13, d14, d15, d16, d17, d18, d19, rfl⟩ : ∃ d2 d3 d4 d5 d6 d7 d8 d9 d10 d11 d12 d13 d14 d15 d16 d17 d18 d19, r = [d2, d3, d4, d5, d6, d7, d8, d9, d10, d11, d12, d13, d14, d15, d16, d17, d18, d19] := by
      match r, rl with
      | [d2, d3, d4, d5, d6, d7, d8, d9, d10, d11, d12, d13, d14, d15, d16, d17, d18, d19], _ => exact ⟨d2, d3, d4, d5, d6, d7, d8, d9, d10, d11, d12, d13, d14, d15, d16, d17, d18, d19, rfl⟩
    refine cut1 (fun ρ' M4 => ∃ (ins : List (Str × Str)) (gs : List Gt), okWeb ins gs ∧ Pen p (1000 * i + 400) M4 ∧ ρ' = [some (.fro (cs.map D.int)), some (.obj p), some (.int i), some (.lst (ins.map ilD)), some (.lst (gs.map Gt.d)), d5, d6, d7, d8, d9, d10, d11, d12, d13, d14, d15, d16, d17, d18, d19]) ?_ ?_
    · intro R hR
      simp only [TV.wSeq, TV.wIf, TV.wOr, TV.wNot, TV.wAnd, TV.wAndV, TV.wOrV, TV.wNotV, TV.wIfE, TV.wTru, TV.wCB, TV.wCons, TV.wVar, TV.wC, TV.wNil, TV.wTest, TV.wChain, TV.wRet, TV.wRetN, TV.wNext, TV.wSet, TV.wDrop, TV.wFrz, TV.wMut, TV.wDisp, TV.wTup, TV.wOp, TV.wCall, TV.wDget, TV.wDput, TV.wFor, TV.wLc, TV.wiL, TV.wiT, TV.wiS, TV.wiR1, TV.wiR2, TV.wiEnumS, TV.wiEnum, TV.wgName, TV.wgTup, TV.wgCons, TV.wgNil, TV.wPar, TV.wPar3, TV.wAsg, TV.wUn, TV.wBM, TV.wApp, TV.wSetI, TV.wListC, TV.wSlL, TV.wSlS, TV.wSlT, TV.wNo, TV.wPart, TV.wYes, TV.wRev, TV.wMelt, TV.wNever, TV.wipe0, TV.wDictM, TV.wDictF, TV.wDict0F, TV.wPairs, List.getElem?_cons_zero, List.getElem?_cons_succ, List.set_cons_zero, List.set_cons_succ, Option.some.injEq, exists_eq_left', exists_eq_left, List.cons.injEq, and_true, true_and, TV.D.str.injEq, TV.D.int.injEq, TV.D.bl.injEq, TV.D.lst.injEq, TV.D.tup.injEq, TV.D.obj.injEq, List.map_cons, List.map_nil, TV.cmpD, TV.subD, TV.intD, TV.inSD, TV.ninSD, TV.isND, TV.notND, TV.isBD, TV.divmodC, TV.absC, isiC', TV.len_str, TV.len_lst, TV.len_tup, TV.tru_bl, TV.tru_int, TV.tru_str, TV.tru_lst, TV.tru_tup, TV.add_int, TV.add_str, TV.add_lst, TV.add_tup, TV.mul_int, TV.mul_str, TV.ix_str, TV.ix_lst, TV.ix_tup, TV.count_str, TV.eq_str, TV.ne_str, TV.eq_int, TV.ne_int, TV.eq_lst, TV.ne_lst, TV.sgx, TV.vw_non, TV.vw_bl, TV.vw_int, TV.vw_str, TV.vw_tup, TV.vw_lst, TV.vw_fro, TV.vw_dct, TV.key_str, TV.key_int, false_or, or_false, List.length_nil, TV.ty_non, TV.ty_bl, TV.ty_int, TV.ty_str, TV.ty_tup, TV.ty_lst, TV.ty_dct, TV.tn_str, TV.tn_int, TV.tn_bool, TV.tn_list, TV.tn_tuple, TV.tn_dict, TV.isT, String.reduceBEq, Bool.and_false, Bool.or_false, Bool.false_and, Bool.and_true, Bool.true_or, Bool.or_true, and_assoc, TV.D.ty.injEq, reduceCtorEq, exists_const, exists_and_left, exists_and_right, if_true, if_false, Bool.not_true, Bool.not_false, Bool.false_eq_true, reduceIte, TV.wExt, TV.wPop, TV.wPopAt, TV.wChg, TV.wAny, TV.wAug, TV.wWhile, TV.kgetD, TV.kinD, TV.wLenSet, TV.wLenO, TV.wEqO, TV.wMakeF, TV.wMeth, TV.wFld, TV.wSetF, TV.sumC, TV.minC, TV.maxC, TV.lcmC, TV.isiO, TV.wLc2, TV.wSlT, TV.wIsiT, List.append_nil, TV.wEither, TV.wGet2, TV.wDict1, TV.wDictZip, TV.sumIC, TV.wiZip, TV.wCallL, TV.mulTD]
      obtain ⟨es, e1, e2⟩ := pen
      refine ⟨rfl, p, es, _, _, rfl, by decide, by decide, e1, e2, by omega, fun ins gs es2 ok ll pe => ⟨_, rfl, rfl, _, _, rfl, _, _, rfl, rfl, hR _ _ ⟨ins, gs, ok, ⟨es2, updM_at, pe⟩, rfl⟩⟩⟩
    rintro ρ4 M4 ⟨ins, gs, ok, pen4, rfl⟩
    have few : ins.length ≤ 3 := ok.1.2.1
    have one : 1 ≤ ins.length := ok.1.1
    have rh : ∀ p ∈ ins, okRh p.2 := fun p hp => (ok.1.2.2.1 p hp).2
    refine cut1 (fun ρ' M5 => ∃ b1 b2 : Nat, b1 ≤ 60 ∧ b2 ≤ 60 ∧ Pen p (1000 * i + 402) M5 ∧ ρ' = [some (.fro (cs.map D.int)), some (.obj p), some (.int i), some (.lst (ins.map ilD)), some (.lst (gs.map Gt.d)), some (.ins T.C_Web (webOf ins gs)), some (.lst [.int b1, .int b2, .int 0]), d7, d8, d9, d10, d11, d12, d13, d14, d15, d16, d17, d18, d19]) ?_ ?_
    · intro R hR
      simp only [TV.wSeq, TV.wIf, TV.wOr, TV.wNot, TV.wAnd, TV.wAndV, TV.wOrV, TV.wNotV, TV.wIfE, TV.wTru, TV.wCB, TV.wCons, TV.wVar, TV.wC, TV.wNil, TV.wTest, TV.wChain, TV.wRet, TV.wRetN, TV.wNext, TV.wSet, TV.wDrop, TV.wFrz, TV.wMut, TV.wDisp, TV.wTup, TV.wOp, TV.wCall, TV.wDget, TV.wDput, TV.wFor, TV.wLc, TV.wiL, TV.wiT, TV.wiS, TV.wiR1, TV.wiR2, TV.wiEnumS, TV.wiEnum, TV.wgName, TV.wgTup, TV.wgCons, TV.wgNil, TV.wPar, TV.wPar3, TV.wAsg, TV.wUn, TV.wBM, TV.wApp, TV.wSetI, TV.wListC, TV.wSlL, TV.wSlS, TV.wSlT, TV.wNo, TV.wPart, TV.wYes, TV.wRev, TV.wMelt, TV.wNever, TV.wipe0, TV.wDictM, TV.wDictF, TV.wDict0F, TV.wPairs, List.getElem?_cons_zero, List.getElem?_cons_succ, List.set_cons_zero, List.set_cons_succ, Option.some.injEq, exists_eq_left', exists_eq_left, List.cons.injEq, and_true, true_and, TV.D.str.injEq, TV.D.int.injEq, TV.D.bl.injEq, TV.D.lst.injEq, TV.D.tup.injEq, TV.D.obj.injEq, List.map_cons, List.map_nil, TV.cmpD, TV.subD, TV.intD, TV.inSD, TV.ninSD, TV.isND, TV.notND, TV.isBD, TV.divmodC, TV.absC, isiC', TV.len_str, TV.len_lst, TV.len_tup, TV.tru_bl, TV.tru_int, TV.tru_str, TV.tru_lst, TV.tru_tup, TV.add_int, TV.add_str, TV.add_lst, TV.add_tup, TV.mul_int, TV.mul_str, TV.ix_str, TV.ix_lst, TV.ix_tup, TV.count_str, TV.eq_str, TV.ne_str, TV.eq_int, TV.ne_int, TV.eq_lst, TV.ne_lst, TV.sgx, TV.vw_non, TV.vw_bl, TV.vw_int, TV.vw_str, TV.vw_tup, TV.vw_lst, TV.vw_fro, TV.vw_dct, TV.key_str, TV.key_int, false_or, or_false, List.length_nil, TV.ty_non, TV.ty_bl, TV.ty_int, TV.ty_str, TV.ty_tup, TV.ty_lst, TV.ty_dct, TV.tn_str, TV.tn_int, TV.tn_bool, TV.tn_list, TV.tn_tuple, TV.tn_dict, TV.isT, String.reduceBEq, Bool.and_false, Bool.or_false, Bool.false_and, Bool.and_true, Bool.true_or, Bool.or_true, and_assoc, TV.D.ty.injEq, reduceCtorEq, exists_const, exists_and_left, exists_and_right, if_true, if_false, Bool.not_true, Bool.not_false, Bool.false_eq_true, reduceIte, TV.wExt, TV.wPop, TV.wPopAt, TV.wChg, TV.wAny, TV.wAug, TV.wWhile, TV.kgetD, TV.kinD, TV.wLenSet, TV.wLenO, TV.wEqO, TV.wMakeF, TV.wMeth, TV.wFld, TV.wSetF, TV.sumC, TV.minC, TV.maxC, TV.lcmC, TV.isiO, TV.wLc2, TV.wSlT, TV.wIsiT, List.append_nil, TV.wEither, TV.wGet2, TV.wDict1, TV.wDictZip, TV.sumIC, TV.wiZip, TV.wCallL, TV.mulTD]
      intro a ha
      refine ⟨rfl, a, _, _, ins, gs, rfl, updM_same, .inl rfl, .inl rfl, ok, rfl, _, updM_same, ?_⟩
      rw [updM_updM, del_upd ha]
      refine pen_draw pen4 (by omega) (by decide) (small_lt (by decide)) fun v M5 v0 v1 p1 => pen_draw p1 (by omega) (by decide) (small_lt (by decide)) fun u M6 u0 u1 p2 => ⟨show 3 ≤ 100000 by decide, ?_⟩
      obtain ⟨b1, rfl⟩ := Int.eq_ofNat_of_zero_le v0
      obtain ⟨b2, rfl⟩ := Int.eq_ofNat_of_zero_le u0
      exact hR _ _ ⟨b1, b2, by omega, by omega, p2, rfl⟩
    rintro ρ5 M5 ⟨b1, b2, b1l, b2l, pen5, rfl⟩
    refine cut1 (fun ρ' M6 => ∃ fd : List (List Int), fd.length = ins.length ∧ (∀ r ∈ fd, drawn r) ∧ Pen p (1000 * i + 610) M6 ∧ ρ' = [some (.fro (cs.map D.int)), some (.obj p), some (.int i), some (.lst (ins.map ilD)), some (.lst (gs.map Gt.d)), some (.ins T.C_Web (webOf ins gs)), some (.lst [.int b1, .int b2, .int 0]), some (.tup (fd.map rowD)), d8, d9, d10, d11, d12, d13, d14, d15, d16, d17, d18, d19]) ?_ ?_
    · intro R hR
      simp only [TV.wSeq, TV.wIf, TV.wOr, TV.wNot, TV.wAnd, TV.wAndV, TV.wOrV, TV.wNotV, TV.wIfE, TV.wTru, TV.wCB, TV.wCons, TV.wVar, TV.wC, TV.wNil, TV.wTest, TV.wChain, TV.wRet, TV.wRetN, TV.wNext, TV.wSet, TV.wDrop, TV.wFrz, TV.wMut, TV.wDisp, TV.wTup, TV.wOp, TV.wCall, TV.wDget, TV.wDput, TV.wFor, TV.wLc, TV.wiL, TV.wiT, TV.wiS, TV.wiR1, TV.wiR2, TV.wiEnumS, TV.wiEnum, TV.wgName, TV.wgTup, TV.wgCons, TV.wgNil, TV.wPar, TV.wPar3, TV.wAsg, TV.wUn, TV.wBM, TV.wApp, TV.wSetI, TV.wListC, TV.wSlL, TV.wSlS, TV.wSlT, TV.wNo, TV.wPart, TV.wYes, TV.wRev, TV.wMelt, TV.wNever, TV.wipe0, TV.wDictM, TV.wDictF, TV.wDict0F, TV.wPairs, List.getElem?_cons_zero, List.getElem?_cons_succ, List.set_cons_zero, List.set_cons_succ, Option.some.injEq, exists_eq_left', exists_eq_left, List.cons.injEq, and_true, true_and, TV.D.str.injEq, TV.D.int.injEq, TV.D.bl.injEq, TV.D.lst.injEq, TV.D.tup.injEq, TV.D.obj.injEq, List.map_cons, List.map_nil, TV.cmpD, TV.subD, TV.intD, TV.inSD, TV.ninSD, TV.isND, TV.notND, TV.isBD, TV.divmodC, TV.absC, isiC', TV.len_str, TV.len_lst, TV.len_tup, TV.tru_bl, TV.tru_int, TV.tru_str, TV.tru_lst, TV.tru_tup, TV.add_int, TV.add_str, TV.add_lst, TV.add_tup, TV.mul_int, TV.mul_str, TV.ix_str, TV.ix_lst, TV.ix_tup, TV.count_str, TV.eq_str, TV.ne_str, TV.eq_int, TV.ne_int, TV.eq_lst, TV.ne_lst, TV.sgx, TV.vw_non, TV.vw_bl, TV.vw_int, TV.vw_str, TV.vw_tup, TV.vw_lst, TV.vw_fro, TV.vw_dct, TV.key_str, TV.key_int, false_or, or_false, List.length_nil, TV.ty_non, TV.ty_bl, TV.ty_int, TV.ty_str, TV.ty_tup, TV.ty_lst, TV.ty_dct, TV.tn_str, TV.tn_int, TV.tn_bool, TV.tn_list, TV.tn_tuple, TV.tn_dict, TV.isT, String.reduceBEq, Bool.and_false, Bool.or_false, Bool.false_and, Bool.and_true, Bool.true_or, Bool.or_true, and_assoc, TV.D.ty.injEq, reduceCtorEq, exists_const, exists_and_left, exists_and_right, if_true, if_false, Bool.not_true, Bool.not_false, Bool.false_eq_true, reduceIte, TV.wExt, TV.wPop, TV.wPopAt, TV.wChg, TV.wAny, TV.wAug, TV.wWhile, TV.kgetD, TV.kinD, TV.wLenSet, TV.wLenO, TV.wEqO, TV.wMakeF, TV.wMeth, TV.wFld, TV.wSetF, TV.sumC, TV.minC, TV.maxC, TV.lcmC, TV.isiO, TV.wLc2, TV.wSlT, TV.wIsiT, List.append_nil, TV.wEither, TV.wGet2, TV.wDict1, TV.wDictZip, TV.sumIC, TV.wiZip, TV.wCallL, TV.mulTD]
      refine pen_draw pen5 (by omega) (by decide) (small_lt (by decide)) fun v M5 v0 v1 p1 => ?_
      obtain ⟨es, e1, e2⟩ := p1
      exact ⟨rfl, p, ins, v, es, _, rfl, e1, e2, by omega, few, rh, v0, by omega, fun fd es2 fl fdr pe => hR _ _ ⟨fd, fl, fdr, ⟨es2, updM_at, pe.up (by omega)⟩, rfl⟩⟩
    rintro ρ6 M6 ⟨fd, fl, fdr, pen6, rfl⟩
    have fdo : ∀ r ∈ fd, okRow r := fun r hr => drawn_row (fdr r hr)
    refine cut1 (fun ρ' M7 => ∃ d8 d9 d10 d11 d12 d13 d14 d15 d16 d17 d18 d19, Pen p (1000 * i + 610) M7 ∧ ρ' = [some (.fro (cs.map D.int)), some (.obj p), some (.int i), some (.lst (ins.map ilD)), some (.lst (gs.map Gt.d)), some (.ins T.C_Web (webOf ins gs)), some (.lst [.int b1, .int b2, .int 0]), some (.tup (fd.map rowD)), d8, d9, d10, d11, d12, d13, d14, d15, d16, d17, d18, d19]) ?_ ?_
    · intro R hR
      refine forB (I := fun ρ' M7 => ∃ d8 d9 d10 d11 d12 d13 d14 d15 d16 d17 d18 d19, Pen p (1000 * i + 610) M7 ∧ ρ' = [some (.fro (cs.map D.int)), some (.obj p), some (.int i), some (.lst (ins.map ilD)), some (.lst (gs.map Gt.d)), some (.ins T.C_Web (webOf ins gs)), some (.lst [.int b1, .int b2, .int 0]), some (.tup (fd.map rowD)), d8, d9, d10, d11, d12, d13, d14, d15, d16, d17, d18, d19]) b1l b2l rfl ⟨_, _, _, _, _, _, _, _, _, _, _, _, pen6, rfl⟩ ?_ fun ρ' M' h => hR _ _ h
      rintro b ρ' M7 E3 hb ⟨d8, d9, d10, d11, d12, d13, d14, d15, d16, d17, d18, d19, pen7, rfl⟩ hE3 hrt3
      rw [show List.set [some (.fro (cs.map D.int)), some (.obj p), some (.int i), some (.lst (ins.map ilD)), some (.lst (gs.map Gt.d)), some (.ins T.C_Web (webOf ins gs)), some (.lst [.int b1, .int b2, .int 0]), some (.tup (fd.map rowD)), d8, d9, d10, d11, d12, d13, d14, d15, d16, d17, d18, d19] 8 (some (D.int b)) = [some (.fro (cs.map D.int)), some (.obj p), some (.int i), some (.lst (ins.map ilD)), some (.lst (gs.map Gt.d)), some (.ins T.C_Web (webOf ins gs)), some (.lst [.int b1, .int b2, .int 0]), some (.tup (fd.map rowD)), some (.int b), d9, d10, d11, d12, d13, d14, d15, d16, d17, d18, d19] from rfl]
      refine cut1 (fun ρ' M8 => M8 = M7 ∧ ρ' = [some (.fro (cs.map D.int)), some (.obj p), some (.int i), some (.lst (ins.map ilD)), some (.lst (gs.map Gt.d)), some (.ins T.C_Web (webOf ins gs)), some (.lst [.int b1, .int b2, .int 0]), some (.tup (fd.map rowD)), some (.int b), some (.lst ((inputsN ins b).map pairD)), d10, d11, d12, d13, d14, d15, d16, d17, d18, d19]) ?_ ?_
      · intro R hR
        simp only [TV.wSeq, TV.wIf, TV.wOr, TV.wNot, TV.wAnd, TV.wAndV, TV.wOrV, TV.wNotV, TV.wIfE, TV.wTru, TV.wCB, TV.wCons, TV.wVar, TV.wC, TV.wNil, TV.wTest, TV.wChain, TV.wRet, TV.wRetN, TV.wNext, TV.wSet, TV.wDrop, TV.wFrz, TV.wMut, TV.wDisp, TV.wTup, TV.wOp, TV.wCall, TV.wDget, TV.wDput, TV.wFor, TV.wLc, TV.wiL, TV.wiT, TV.wiS, TV.wiR1, TV.wiR2, TV.wiEnumS, TV.wiEnum, TV.wgName, TV.wgTup, TV.wgCons, TV.wgNil, TV.wPar, TV.wPar3, TV.wAsg, TV.wUn, TV.wBM, TV.wApp, TV.wSetI, TV.wListC, TV.wSlL, TV.wSlS, TV.wSlT, TV.wNo, TV.wPart, TV.wYes, TV.wRev, TV.wMelt, TV.wNever, TV.wipe0, TV.wDictM, TV.wDictF, TV.wDict0F, TV.wPairs, List.getElem?_cons_zero, List.getElem?_cons_succ, List.set_cons_zero, List.set_cons_succ, Option.some.injEq, exists_eq_left', exists_eq_left, List.cons.injEq, and_true, true_and, TV.D.str.injEq, TV.D.int.injEq, TV.D.bl.injEq, TV.D.lst.injEq, TV.D.tup.injEq, TV.D.obj.injEq, List.map_cons, List.map_nil, TV.cmpD, TV.subD, TV.intD, TV.inSD, TV.ninSD, TV.isND, TV.notND, TV.isBD, TV.divmodC, TV.absC, isiC', TV.len_str, TV.len_lst, TV.len_tup, TV.tru_bl, TV.tru_int, TV.tru_str, TV.tru_lst, TV.tru_tup, TV.add_int, TV.add_str, TV.add_lst, TV.add_tup, TV.mul_int, TV.mul_str, TV.ix_str, TV.ix_lst, TV.ix_tup, TV.count_str, TV.eq_str, TV.ne_str, TV.eq_int, TV.ne_int, TV.eq_lst, TV.ne_lst, TV.sgx, TV.vw_non, TV.vw_bl, TV.vw_int, TV.vw_str, TV.vw_tup, TV.vw_lst, TV.vw_fro, TV.vw_dct, TV.key_str, TV.key_int, false_or, or_false, List.length_nil, TV.ty_non, TV.ty_bl, TV.ty_int, TV.ty_str, TV.ty_tup, TV.ty_lst, TV.ty_dct, TV.tn_str, TV.tn_int, TV.tn_bool, TV.tn_list, TV.tn_tuple, TV.tn_dict, TV.isT, String.reduceBEq, Bool.and_false, Bool.or_false, Bool.false_and, Bool.and_true, Bool.true_or, Bool.or_true, and_assoc, TV.D.ty.injEq, reduceCtorEq, exists_const, exists_and_left, exists_and_right, if_true, if_false, Bool.not_true, Bool.not_false, Bool.false_eq_true, reduceIte, TV.wExt, TV.wPop, TV.wPopAt, TV.wChg, TV.wAny, TV.wAug, TV.wWhile, TV.kgetD, TV.kinD, TV.wLenSet, TV.wLenO, TV.wEqO, TV.wMakeF, TV.wMeth, TV.wFld, TV.wSetF, TV.sumC, TV.minC, TV.maxC, TV.lcmC, TV.isiO, TV.wLc2, TV.wSlT, TV.wIsiT, List.append_nil, TV.wEither, TV.wGet2, TV.wDict1, TV.wDictZip, TV.sumIC, TV.wiZip, TV.wCallL, TV.mulTD]
        exact ⟨rfl, ins, b, rfl, rh, few, by omega, hR _ _ ⟨rfl, rfl⟩⟩
      rintro ρ8 M8 ⟨rfl, rfl⟩
      refine cut1 (fun ρ' M9 => ∃ d10 d11, Pen p (1000 * i + 610) M9 ∧ ρ' = [some (.fro (cs.map D.int)), some (.obj p), some (.int i), some (.lst (ins.map ilD)), some (.lst (gs.map Gt.d)), some (.ins T.C_Web (webOf ins gs)), some (.lst [.int b1, .int b2, .int 0]), some (.tup (fd.map rowD)), some (.int b), some (.lst ((inputsN ins b).map pairD)), d10, d11, d12, d13, d14, d15, d16, d17, d18, d19]) ?_ ?_
      · intro R hR
        refine forN (m := 2) rfl (by decide) (by decide) (fun j ρ' M9 => ∃ d10 d11, Pen p (1000 * i + 610) M9 ∧ ρ' = [some (.fro (cs.map D.int)), some (.obj p), some (.int i), some (.lst (ins.map ilD)), some (.lst (gs.map Gt.d)), some (.ins T.C_Web (webOf ins gs)), some (.lst [.int b1, .int b2, .int 0]), some (.tup (fd.map rowD)), some (.int b), some (.lst ((inputsN ins b).map pairD)), d10, d11, d12, d13, d14, d15, d16, d17, d18, d19]) ⟨_, _, pen7, rfl⟩ ?_ fun ρ' M' h => hR _ _ h
        rintro j ρ' M9 E4 hj ⟨d10, d11, pen9, rfl⟩ hE4 hrt4
        simp only [TV.wSeq, TV.wIf, TV.wOr, TV.wNot, TV.wAnd, TV.wAndV, TV.wOrV, TV.wNotV, TV.wIfE, TV.wTru, TV.wCB, TV.wCons, TV.wVar, TV.wC, TV.wNil, TV.wTest, TV.wChain, TV.wRet, TV.wRetN, TV.wNext, TV.wSet, TV.wDrop, TV.wFrz, TV.wMut, TV.wDisp, TV.wTup, TV.wOp, TV.wCall, TV.wDget, TV.wDput, TV.wFor, TV.wLc, TV.wiL, TV.wiT, TV.wiS, TV.wiR1, TV.wiR2, TV.wiEnumS, TV.wiEnum, TV.wgName, TV.wgTup, TV.wgCons, TV.wgNil, TV.wPar, TV.wPar3, TV.wAsg, TV.wUn, TV.wBM, TV.wApp, TV.wSetI, TV.wListC, TV.wSlL, TV.wSlS, TV.wSlT, TV.wNo, TV.wPart, TV.wYes, TV.wRev, TV.wMelt, TV.wNever, TV.wipe0, TV.wDictM, TV.wDictF, TV.wDict0F, TV.wPairs, List.getElem?_cons_zero, List.getElem?_cons_succ, List.set_cons_zero, List.set_cons_succ, Option.some.injEq, exists_eq_left', exists_eq_left, List.cons.injEq, and_true, true_and, TV.D.str.injEq, TV.D.int.injEq, TV.D.bl.injEq, TV.D.lst.injEq, TV.D.tup.injEq, TV.D.obj.injEq, List.map_cons, List.map_nil, TV.cmpD, TV.subD, TV.intD, TV.inSD, TV.ninSD, TV.isND, TV.notND, TV.isBD, TV.divmodC, TV.absC, isiC', TV.len_str, TV.len_lst, TV.len_tup, TV.tru_bl, TV.tru_int, TV.tru_str, TV.tru_lst, TV.tru_tup, TV.add_int, TV.add_str, TV.add_lst, TV.add_tup, TV.mul_int, TV.mul_str, TV.ix_str, TV.ix_lst, TV.ix_tup, TV.count_str, TV.eq_str, TV.ne_str, TV.eq_int, TV.ne_int, TV.eq_lst, TV.ne_lst, TV.sgx, TV.vw_non, TV.vw_bl, TV.vw_int, TV.vw_str, TV.vw_tup, TV.vw_lst, TV.vw_fro, TV.vw_dct, TV.key_str, TV.key_int, false_or, or_false, List.length_nil, TV.ty_non, TV.ty_bl, TV.ty_int, TV.ty_str, TV.ty_tup, TV.ty_lst, TV.ty_dct, TV.tn_str, TV.tn_int, TV.tn_bool, TV.tn_list, TV.tn_tuple, TV.tn_dict, TV.isT, String.reduceBEq, Bool.and_false, Bool.or_false, Bool.false_and, Bool.and_true, Bool.true_or, Bool.or_true, and_assoc, TV.D.ty.injEq, reduceCtorEq, exists_const, exists_and_left, exists_and_right, if_true, if_false, Bool.not_true, Bool.not_false, Bool.false_eq_true, reduceIte, TV.wExt, TV.wPop, TV.wPopAt, TV.wChg, TV.wAny, TV.wAug, TV.wWhile, TV.kgetD, TV.kinD, TV.wLenSet, TV.wLenO, TV.wEqO, TV.wMakeF, TV.wMeth, TV.wFld, TV.wSetF, TV.sumC, TV.minC, TV.maxC, TV.lcmC, TV.isiO, TV.wLc2, TV.wSlT, TV.wIsiT, List.append_nil, TV.wEither, TV.wGet2, TV.wDict1, TV.wDictZip, TV.sumIC, TV.wiZip, TV.wCallL, TV.mulTD]
        refine ⟨rfl, ins, gs, b, rfl, rh, few, by omega, .inr fun q hq => repr_due few (by omega) (vw_obj_lst updM_at) (repr_due few (by omega) rfl ?_)⟩
        simp only [TV.wSeq, TV.wIf, TV.wOr, TV.wNot, TV.wAnd, TV.wAndV, TV.wOrV, TV.wNotV, TV.wIfE, TV.wTru, TV.wCB, TV.wCons, TV.wVar, TV.wC, TV.wNil, TV.wTest, TV.wChain, TV.wRet, TV.wRetN, TV.wNext, TV.wSet, TV.wDrop, TV.wFrz, TV.wMut, TV.wDisp, TV.wTup, TV.wOp, TV.wCall, TV.wDget, TV.wDput, TV.wFor, TV.wLc, TV.wiL, TV.wiT, TV.wiS, TV.wiR1, TV.wiR2, TV.wiEnumS, TV.wiEnum, TV.wgName, TV.wgTup, TV.wgCons, TV.wgNil, TV.wPar, TV.wPar3, TV.wAsg, TV.wUn, TV.wBM, TV.wApp, TV.wSetI, TV.wListC, TV.wSlL, TV.wSlS, TV.wSlT, TV.wNo, TV.wPart, TV.wYes, TV.wRev, TV.wMelt, TV.wNever, TV.wipe0, TV.wDictM, TV.wDictF, TV.wDict0F, TV.wPairs, List.getElem?_cons_zero, List.getElem?_cons_succ, List.set_cons_zero, List.set_cons_succ, Option.some.injEq, exists_eq_left', exists_eq_left, List.cons.injEq, and_true, true_and, TV.D.str.injEq, TV.D.int.injEq, TV.D.bl.injEq, TV.D.lst.injEq, TV.D.tup.injEq, TV.D.obj.injEq, List.map_cons, List.map_nil, TV.cmpD, TV.subD, TV.intD, TV.inSD, TV.ninSD, TV.isND, TV.notND, TV.isBD, TV.divmodC, TV.absC, isiC', TV.len_str, TV.len_lst, TV.len_tup, TV.tru_bl, TV.tru_int, TV.tru_str, TV.tru_lst, TV.tru_tup, TV.add_int, TV.add_str, TV.add_lst, TV.add_tup, TV.mul_int, TV.mul_str, TV.ix_str, TV.ix_lst, TV.ix_tup, TV.count_str, TV.eq_str, TV.ne_str, TV.eq_int, TV.ne_int, TV.eq_lst, TV.ne_lst, TV.sgx, TV.vw_non, TV.vw_bl, TV.vw_int, TV.vw_str, TV.vw_tup, TV.vw_lst, TV.vw_fro, TV.vw_dct, TV.key_str, TV.key_int, false_or, or_false, List.length_nil, TV.ty_non, TV.ty_bl, TV.ty_int, TV.ty_str, TV.ty_tup, TV.ty_lst, TV.ty_dct, TV.tn_str, TV.tn_int, TV.tn_bool, TV.tn_list, TV.tn_tuple, TV.tn_dict, TV.isT, String.reduceBEq, Bool.and_false, Bool.or_false, Bool.false_and, Bool.and_true, Bool.true_or, Bool.or_true, and_assoc, TV.D.ty.injEq, reduceCtorEq, exists_const, exists_and_left, exists_and_right, if_true, if_false, Bool.not_true, Bool.not_false, Bool.false_eq_true, reduceIte, TV.wExt, TV.wPop, TV.wPopAt, TV.wChg, TV.wAny, TV.wAug, TV.wWhile, TV.kgetD, TV.kinD, TV.wLenSet, TV.wLenO, TV.wEqO, TV.wMakeF, TV.wMeth, TV.wFld, TV.wSetF, TV.sumC, TV.minC, TV.maxC, TV.lcmC, TV.isiO, TV.wLc2, TV.wSlT, TV.wIsiT, List.append_nil, TV.wEither, TV.wGet2, TV.wDict1, TV.wDictZip, TV.sumIC, TV.wiZip, TV.wCallL, TV.mulTD]
        rw [if_neg (by simp)]
        have il := inputs_len few b
        refine ⟨⟨_, updM_at⟩, show 2 ≤ 100000 by decide, _, updM_at, by rw [List.length_map]; omega, hE4 _ _ ⟨_, _, ?_, rfl⟩⟩
        rw [updM_updM]
        exact pen9.old hq
      rintro ρ9 M9 ⟨d10, d11, pen9, rfl⟩
      refine cut1 (fun ρ' M10 => M10 = M9 ∧ ρ' = [some (.fro (cs.map D.int)), some (.obj p), some (.int i), some (.lst (ins.map ilD)), some (.lst (gs.map Gt.d)), some (.ins T.C_Web (webOf ins gs)), some (.lst [.int b1, .int b2, .int 0]), some (.tup (fd.map rowD)), some (.int b), some (.lst ((inputsN ins b).map pairD)), d10, d11, some (.lst ((List.range ins.length).map fun k => D.lst ((rowN ins b k).map fun n : Nat => D.int n))), d13, d14, d15, d16, d17, d18, d19]) ?_ ?_
      · intro R hR
        simp only [TV.wSeq, TV.wIf, TV.wOr, TV.wNot, TV.wAnd, TV.wAndV, TV.wOrV, TV.wNotV, TV.wIfE, TV.wTru, TV.wCB, TV.wCons, TV.wVar, TV.wC, TV.wNil, TV.wTest, TV.wChain, TV.wRet, TV.wRetN, TV.wNext, TV.wSet, TV.wDrop, TV.wFrz, TV.wMut, TV.wDisp, TV.wTup, TV.wOp, TV.wCall, TV.wDget, TV.wDput, TV.wFor, TV.wLc, TV.wiL, TV.wiT, TV.wiS, TV.wiR1, TV.wiR2, TV.wiEnumS, TV.wiEnum, TV.wgName, TV.wgTup, TV.wgCons, TV.wgNil, TV.wPar, TV.wPar3, TV.wAsg, TV.wUn, TV.wBM, TV.wApp, TV.wSetI, TV.wListC, TV.wSlL, TV.wSlS, TV.wSlT, TV.wNo, TV.wPart, TV.wYes, TV.wRev, TV.wMelt, TV.wNever, TV.wipe0, TV.wDictM, TV.wDictF, TV.wDict0F, TV.wPairs, List.getElem?_cons_zero, List.getElem?_cons_succ, List.set_cons_zero, List.set_cons_succ, Option.some.injEq, exists_eq_left', exists_eq_left, List.cons.injEq, and_true, true_and, TV.D.str.injEq, TV.D.int.injEq, TV.D.bl.injEq, TV.D.lst.injEq, TV.D.tup.injEq, TV.D.obj.injEq, List.map_cons, List.map_nil, TV.cmpD, TV.subD, TV.intD, TV.inSD, TV.ninSD, TV.isND, TV.notND, TV.isBD, TV.divmodC, TV.absC, isiC', TV.len_str, TV.len_lst, TV.len_tup, TV.tru_bl, TV.tru_int, TV.tru_str, TV.tru_lst, TV.tru_tup, TV.add_int, TV.add_str, TV.add_lst, TV.add_tup, TV.mul_int, TV.mul_str, TV.ix_str, TV.ix_lst, TV.ix_tup, TV.count_str, TV.eq_str, TV.ne_str, TV.eq_int, TV.ne_int, TV.eq_lst, TV.ne_lst, TV.sgx, TV.vw_non, TV.vw_bl, TV.vw_int, TV.vw_str, TV.vw_tup, TV.vw_lst, TV.vw_fro, TV.vw_dct, TV.key_str, TV.key_int, false_or, or_false, List.length_nil, TV.ty_non, TV.ty_bl, TV.ty_int, TV.ty_str, TV.ty_tup, TV.ty_lst, TV.ty_dct, TV.tn_str, TV.tn_int, TV.tn_bool, TV.tn_list, TV.tn_tuple, TV.tn_dict, TV.isT, String.reduceBEq, Bool.and_false, Bool.or_false, Bool.false_and, Bool.and_true, Bool.true_or, Bool.or_true, and_assoc, TV.D.ty.injEq, reduceCtorEq, exists_const, exists_and_left, exists_and_right, if_true, if_false, Bool.not_true, Bool.not_false, Bool.false_eq_true, reduceIte, TV.wExt, TV.wPop, TV.wPopAt, TV.wChg, TV.wAny, TV.wAug, TV.wWhile, TV.kgetD, TV.kinD, TV.wLenSet, TV.wLenO, TV.wEqO, TV.wMakeF, TV.wMeth, TV.wFld, TV.wSetF, TV.sumC, TV.minC, TV.maxC, TV.lcmC, TV.isiO, TV.wLc2, TV.wSlT, TV.wIsiT, List.append_nil, TV.wEither, TV.wGet2, TV.wDict1, TV.wDictZip, TV.sumIC, TV.wiZip, TV.wCallL, TV.mulTD]
        rw [List.length_map]
        refine ⟨by omega, by omega, by rw [rng_len]; omega, fun j acc M' => M' = M9 ∧ acc = (List.range j).map fun k => D.lst ((rowN ins b k).map fun n : Nat => D.int n), ⟨rfl, rfl⟩, ?_, ?_⟩
        · rintro j d acc M' he ⟨rfl, rfl⟩
          obtain ⟨hj, rfl⟩ := rng_get he
          have il := inputs_len few b
          refine ⟨by rw [List.length_map]; omega, fun m acc M2 => M2 = M' ∧ acc = ((((inputsN ins b).take m).filter fun p => decide (p.1 = j)).map Prod.snd).map fun n : Nat => D.int n, ⟨rfl, rfl⟩, ?_, ?_⟩
          · rintro m d acc M2 hd ⟨rfl, rfl⟩
            obtain ⟨c, h2, rfl⟩ := map_get hd
            refine ⟨_, rfl, rfl, _, _, rfl, _, _, rfl, rfl, _, rfl, ?_⟩
            dsimp only
            rw [List.take_add_one, h2, List.filter_append]
            have e : decide ((c.1 : Int) = 0 + (j : Int)) = decide (c.1 = j) := by rw [decide_eq_decide]; omega
            rw [e]
            by_cases z : c.1 = j
            · rw [if_pos (decide_eq_true z)]
              refine ⟨rfl, ?_⟩
              simp [z]
            · rw [if_neg (by simpa using z)]
              refine ⟨rfl, ?_⟩
              simp [z]
          · rintro acc M2 ⟨rfl, rfl⟩
            refine ⟨rfl, ?_⟩
            rw [List.length_map, List.take_length, List.range_succ, List.map_append]
            rfl
        · rintro acc M' ⟨rfl, rfl⟩
          rw [rng_len, Int.toNat_natCast]
          exact hR _ _ ⟨rfl, rfl⟩
      rintro ρ10 M10 ⟨rfl, rfl⟩
      refine cut1 (fun ρ' M11 => M11 = M10 ∧ ρ' = [some (.fro (cs.map D.int)), some (.obj p), some (.int i), some (.lst (ins.map ilD)), some (.lst (gs.map Gt.d)), some (.ins T.C_Web (webOf ins gs)), some (.lst [.int b1, .int b2, .int 0]), some (.tup (fd.map rowD)), some (.int b), some (.lst ((inputsN ins b).map pairD)), d10, d11, some (.lst ((List.range ins.length).map fun k => D.lst ((rowN ins b k).map fun n : Nat => D.int n))), some (.tup ((cutF ins fd b).map rowD)), d14, d15, d16, d17, d18, d19]) ?_ ?_
      · intro R hR
        simp only [TV.wSeq, TV.wIf, TV.wOr, TV.wNot, TV.wAnd, TV.wAndV, TV.wOrV, TV.wNotV, TV.wIfE, TV.wTru, TV.wCB, TV.wCons, TV.wVar, TV.wC, TV.wNil, TV.wTest, TV.wChain, TV.wRet, TV.wRetN, TV.wNext, TV.wSet, TV.wDrop, TV.wFrz, TV.wMut, TV.wDisp, TV.wTup, TV.wOp, TV.wCall, TV.wDget, TV.wDput, TV.wFor, TV.wLc, TV.wiL, TV.wiT, TV.wiS, TV.wiR1, TV.wiR2, TV.wiEnumS, TV.wiEnum, TV.wgName, TV.wgTup, TV.wgCons, TV.wgNil, TV.wPar, TV.wPar3, TV.wAsg, TV.wUn, TV.wBM, TV.wApp, TV.wSetI, TV.wListC, TV.wSlL, TV.wSlS, TV.wSlT, TV.wNo, TV.wPart, TV.wYes, TV.wRev, TV.wMelt, TV.wNever, TV.wipe0, TV.wDictM, TV.wDictF, TV.wDict0F, TV.wPairs, List.getElem?_cons_zero, List.getElem?_cons_succ, List.set_cons_zero, List.set_cons_succ, Option.some.injEq, exists_eq_left', exists_eq_left, List.cons.injEq, and_true, true_and, TV.D.str.injEq, TV.D.int.injEq, TV.D.bl.injEq, TV.D.lst.injEq, TV.D.tup.injEq, TV.D.obj.injEq, List.map_cons, List.map_nil, TV.cmpD, TV.subD, TV.intD, TV.inSD, TV.ninSD, TV.isND, TV.notND, TV.isBD, TV.divmodC, TV.absC, isiC', TV.len_str, TV.len_lst, TV.len_tup, TV.tru_bl, TV.tru_int, TV.tru_str, TV.tru_lst, TV.tru_tup, TV.add_int, TV.add_str, TV.add_lst, TV.add_tup, TV.mul_int, TV.mul_str, TV.ix_str, TV.ix_lst, TV.ix_tup, TV.count_str, TV.eq_str, TV.ne_str, TV.eq_int, TV.ne_int, TV.eq_lst, TV.ne_lst, TV.sgx, TV.vw_non, TV.vw_bl, TV.vw_int, TV.vw_str, TV.vw_tup, TV.vw_lst, TV.vw_fro, TV.vw_dct, TV.key_str, TV.key_int, false_or, or_false, List.length_nil, TV.ty_non, TV.ty_bl, TV.ty_int, TV.ty_str, TV.ty_tup, TV.ty_lst, TV.ty_dct, TV.tn_str, TV.tn_int, TV.tn_bool, TV.tn_list, TV.tn_tuple, TV.tn_dict, TV.isT, String.reduceBEq, Bool.and_false, Bool.or_false, Bool.false_and, Bool.and_true, Bool.true_or, Bool.or_true, and_assoc, TV.D.ty.injEq, reduceCtorEq, exists_const, exists_and_left, exists_and_right, if_true, if_false, Bool.not_true, Bool.not_false, Bool.false_eq_true, reduceIte, TV.wExt, TV.wPop, TV.wPopAt, TV.wChg, TV.wAny, TV.wAug, TV.wWhile, TV.kgetD, TV.kinD, TV.wLenSet, TV.wLenO, TV.wEqO, TV.wMakeF, TV.wMeth, TV.wFld, TV.wSetF, TV.sumC, TV.minC, TV.maxC, TV.lcmC, TV.isiO, TV.wLc2, TV.wSlT, TV.wIsiT, List.append_nil, TV.wEither, TV.wGet2, TV.wDict1, TV.wDictZip, TV.sumIC, TV.wiZip, TV.wCallL, TV.mulTD]
        rw [List.length_map]
        refine ⟨by omega, by omega, by rw [rng_len]; omega, fun j acc M' => M' = M10 ∧ acc = ((cutF ins fd b).take j).map rowD, ⟨rfl, rfl⟩, ?_, ?_⟩
        · rintro j d acc M' he ⟨rfl, rfl⟩
          obtain ⟨hj, rfl⟩ := rng_get he
          have hj : j < ins.length := by omega
          have g1 := List.getElem?_eq_getElem (l := fd) (i := j) (by omega)
          have g2 := List.getElem?_eq_getElem hj
          refine ix_tup.mpr ⟨rowD fd[j], atN (by rw [List.getElem?_map, g1]; rfl), ix_lst.mpr ⟨_, atN (by rw [List.getElem?_map, List.getElem?_range hj]; rfl), ?_⟩⟩
          refine len_lst.mpr ⟨_, rfl, _, rfl, rfl, ?_⟩
          rw [List.length_map, rowN_len g2, cutD_to (by omega), Int.toNat_natCast, List.take_add_one, cutF_get g2 g1, lim_eq (rh _ (List.getElem_mem hj))]
          simp [rowD]
        · rintro acc M' ⟨rfl, rfl⟩
          rw [rng_len, Int.toNat_natCast, List.take_of_length_le (by rw [cutF_len fl]; exact Nat.le_refl _)]
          exact ⟨_, _, rfl, .inl rfl, hR _ _ ⟨rfl, rfl⟩⟩
      rintro ρ11 M11 ⟨rfl, rfl⟩
      refine cut1 (fun ρ' M12 => M12 = M11 ∧ ρ' = [some (.fro (cs.map D.int)), some (.obj p), some (.int i), some (.lst (ins.map ilD)), some (.lst (gs.map Gt.d)), some (.ins T.C_Web (webOf ins gs)), some (.lst [.int b1, .int b2, .int 0]), some (.tup (fd.map rowD)), some (.int b), some (.lst ((inputsN ins b).map pairD)), d10, d11, some (.lst ((List.range ins.length).map fun k => D.lst ((rowN ins b k).map fun n : Nat => D.int n))), some (.tup ((cutF ins fd b).map rowD)), some (.bl (endlessB ins fd b)), d15, d16, d17, d18, d19]) ?_ ?_
      · intro R hR
        simp only [TV.wSeq, TV.wIf, TV.wOr, TV.wNot, TV.wAnd, TV.wAndV, TV.wOrV, TV.wNotV, TV.wIfE, TV.wTru, TV.wCB, TV.wCons, TV.wVar, TV.wC, TV.wNil, TV.wTest, TV.wChain, TV.wRet, TV.wRetN, TV.wNext, TV.wSet, TV.wDrop, TV.wFrz, TV.wMut, TV.wDisp, TV.wTup, TV.wOp, TV.wCall, TV.wDget, TV.wDput, TV.wFor, TV.wLc, TV.wiL, TV.wiT, TV.wiS, TV.wiR1, TV.wiR2, TV.wiEnumS, TV.wiEnum, TV.wgName, TV.wgTup, TV.wgCons, TV.wgNil, TV.wPar, TV.wPar3, TV.wAsg, TV.wUn, TV.wBM, TV.wApp, TV.wSetI, TV.wListC, TV.wSlL, TV.wSlS, TV.wSlT, TV.wNo, TV.wPart, TV.wYes, TV.wRev, TV.wMelt, TV.wNever, TV.wipe0, TV.wDictM, TV.wDictF, TV.wDict0F, TV.wPairs, List.getElem?_cons_zero, List.getElem?_cons_succ, List.set_cons_zero, List.set_cons_succ, Option.some.injEq, exists_eq_left', exists_eq_left, List.cons.injEq, and_true, true_and, TV.D.str.injEq, TV.D.int.injEq, TV.D.bl.injEq, TV.D.lst.injEq, TV.D.tup.injEq, TV.D.obj.injEq, List.map_cons, List.map_nil, TV.cmpD, TV.subD, TV.intD, TV.inSD, TV.ninSD, TV.isND, TV.notND, TV.isBD, TV.divmodC, TV.absC, isiC', TV.len_str, TV.len_lst, TV.len_tup, TV.tru_bl, TV.tru_int, TV.tru_str, TV.tru_lst, TV.tru_tup, TV.add_int, TV.add_str, TV.add_lst, TV.add_tup, TV.mul_int, TV.mul_str, TV.ix_str, TV.ix_lst, TV.ix_tup, TV.count_str, TV.eq_str, TV.ne_str, TV.eq_int, TV.ne_int, TV.eq_lst, TV.ne_lst, TV.sgx, TV.vw_non, TV.vw_bl, TV.vw_int, TV.vw_str, TV.vw_tup, TV.vw_lst, TV.vw_fro, TV.vw_dct, TV.key_str, TV.key_int, false_or, or_false, List.length_nil, TV.ty_non, TV.ty_bl, TV.ty_int, TV.ty_str, TV.ty_tup, TV.ty_lst, TV.ty_dct, TV.tn_str, TV.tn_int, TV.tn_bool, TV.tn_list, TV.tn_tuple, TV.tn_dict, TV.isT, String.reduceBEq, Bool.and_false, Bool.or_false, Bool.false_and, Bool.and_true, Bool.true_or, Bool.or_true, and_assoc, TV.D.ty.injEq, reduceCtorEq, exists_const, exists_and_left, exists_and_right, if_true, if_false, Bool.not_true, Bool.not_false, Bool.false_eq_true, reduceIte, TV.wExt, TV.wPop, TV.wPopAt, TV.wChg, TV.wAny, TV.wAug, TV.wWhile, TV.kgetD, TV.kinD, TV.wLenSet, TV.wLenO, TV.wEqO, TV.wMakeF, TV.wMeth, TV.wFld, TV.wSetF, TV.sumC, TV.minC, TV.maxC, TV.lcmC, TV.isiO, TV.wLc2, TV.wSlT, TV.wIsiT, List.append_nil, TV.wEither, TV.wGet2, TV.wDict1, TV.wDictZip, TV.sumIC, TV.wiZip, TV.wCallL, TV.mulTD]
        rw [List.length_map]
        refine ⟨by omega, by omega, by rw [rng_len]; omega, fun j acc M' => M' = M11 ∧ acc = (lowN ins fd b j).map fun i : Nat => D.int i, ⟨rfl, rfl⟩, ?_, ?_⟩
        · rintro j d acc M' he ⟨rfl, rfl⟩
          obtain ⟨hj, rfl⟩ := rng_get he
          have hj : j < ins.length := by omega
          have g1 := List.getElem?_eq_getElem (l := fd) (i := j) (by omega)
          have g2 := List.getElem?_eq_getElem hj
          refine ix_tup.mpr ⟨rowD fd[j], atN (by rw [List.getElem?_map, g1]; rfl), len_tup.mpr ?_⟩
          refine ix_lst.mpr ⟨_, atN (by rw [List.getElem?_map, List.getElem?_range hj]; rfl), ?_⟩
          refine len_lst.mpr ⟨_, rfl, _, rfl, ?_⟩
          dsimp only
          rw [List.length_map, List.length_map]
          have e : lowN ins fd b (j + 1) = lowN ins fd b j ++ if fd[j].length < (rowN ins b j).length then [j] else [] := by
            unfold lowN
            rw [List.range_succ, List.filter_append]
            congr 1
            by_cases z : fd[j].length < (rowN ins b j).length
            · simp [g1, z]
            · simp [g1, z]
          rw [e, Int.zero_add]
          by_cases z : fd[j].length < (rowN ins b j).length
          · rw [if_pos (decide_eq_true (by omega)), if_pos z]
            exact ⟨rfl, by simp⟩
          · rw [if_neg (by rw [decide_eq_true_eq]; omega), if_neg z, List.append_nil]
            exact ⟨rfl, rfl⟩
        · rintro acc M' ⟨rfl, rfl⟩
          rw [rng_len, Int.toNat_natCast]
          have ll : (lowN ins fd b ins.length).length ≤ 3 := by
            have := List.length_filter_le (fun k => decide ((fd[k]?.getD []).length < (rowN ins b k).length)) (List.range ins.length)
            rw [List.length_range] at this
            exact Nat.le_trans this few
          refine ⟨by decide, eq_low ll (fun i hi => ?_) ?_⟩
          · have := List.mem_range.mp (List.mem_filter.mp hi).1
            omega
          · rw [low_endless rh fl]
            exact hR _ _ ⟨rfl, rfl⟩
      rintro ρ12 M12 ⟨rfl, rfl⟩
      refine cut1 (fun ρ' M13 => M13 = M12 ∧ ρ' = [some (.fro (cs.map D.int)), some (.obj p), some (.int i), some (.lst (ins.map ilD)), some (.lst (gs.map Gt.d)), some (.ins T.C_Web (webOf ins gs)), some (.lst [.int b1, .int b2, .int 0]), some (.tup (fd.map rowD)), some (.int b), some (.lst ((inputsN ins b).map pairD)), d10, d11, some (.lst ((List.range ins.length).map fun k => D.lst ((rowN ins b k).map fun n : Nat => D.int n))), some (.tup ((cutF ins fd b).map rowD)), some (.bl (endlessB ins fd b)), d15, d16, d17, d18, d19]) ?_ ?_
      · intro R hR
        simp only [TV.wSeq, TV.wIf, TV.wOr, TV.wNot, TV.wAnd, TV.wAndV, TV.wOrV, TV.wNotV, TV.wIfE, TV.wTru, TV.wCB, TV.wCons, TV.wVar, TV.wC, TV.wNil, TV.wTest, TV.wChain, TV.wRet, TV.wRetN, TV.wNext, TV.wSet, TV.wDrop, TV.wFrz, TV.wMut, TV.wDisp, TV.wTup, TV.wOp, TV.wCall, TV.wDget, TV.wDput, TV.wFor, TV.wLc, TV.wiL, TV.wiT, TV.wiS, TV.wiR1, TV.wiR2, TV.wiEnumS, TV.wiEnum, TV.wgName, TV.wgTup, TV.wgCons, TV.wgNil, TV.wPar, TV.wPar3, TV.wAsg, TV.wUn, TV.wBM, TV.wApp, TV.wSetI, TV.wListC, TV.wSlL, TV.wSlS, TV.wSlT, TV.wNo, TV.wPart, TV.wYes, TV.wRev, TV.wMelt, TV.wNever, TV.wipe0, TV.wDictM, TV.wDictF, TV.wDict0F, TV.wPairs, List.getElem?_cons_zero, List.getElem?_cons_succ, List.set_cons_zero, List.set_cons_succ, Option.some.injEq, exists_eq_left', exists_eq_left, List.cons.injEq, and_true, true_and, TV.D.str.injEq, TV.D.int.injEq, TV.D.bl.injEq, TV.D.lst.injEq, TV.D.tup.injEq, TV.D.obj.injEq, List.map_cons, List.map_nil, TV.cmpD, TV.subD, TV.intD, TV.inSD, TV.ninSD, TV.isND, TV.notND, TV.isBD, TV.divmodC, TV.absC, isiC', TV.len_str, TV.len_lst, TV.len_tup, TV.tru_bl, TV.tru_int, TV.tru_str, TV.tru_lst, TV.tru_tup, TV.add_int, TV.add_str, TV.add_lst, TV.add_tup, TV.mul_int, TV.mul_str, TV.ix_str, TV.ix_lst, TV.ix_tup, TV.count_str, TV.eq_str, TV.ne_str, TV.eq_int, TV.ne_int, TV.eq_lst, TV.ne_lst, TV.sgx, TV.vw_non, TV.vw_bl, TV.vw_int, TV.vw_str, TV.vw_tup, TV.vw_lst, TV.vw_fro, TV.vw_dct, TV.key_str, TV.key_int, false_or, or_false, List.length_nil, TV.ty_non, TV.ty_bl, TV.ty_int, TV.ty_str, TV.ty_tup, TV.ty_lst, TV.ty_dct, TV.tn_str, TV.tn_int, TV.tn_bool, TV.tn_list, TV.tn_tuple, TV.tn_dict, TV.isT, String.reduceBEq, Bool.and_false, Bool.or_false, Bool.false_and, Bool.and_true, Bool.true_or, Bool.or_true, and_assoc, TV.D.ty.injEq, reduceCtorEq, exists_const, exists_and_left, exists_and_right, if_true, if_false, Bool.not_true, Bool.not_false, Bool.false_eq_true, reduceIte, TV.wExt, TV.wPop, TV.wPopAt, TV.wChg, TV.wAny, TV.wAug, TV.wWhile, TV.kgetD, TV.kinD, TV.wLenSet, TV.wLenO, TV.wEqO, TV.wMakeF, TV.wMeth, TV.wFld, TV.wSetF, TV.sumC, TV.minC, TV.maxC, TV.lcmC, TV.isiO, TV.wLc2, TV.wSlT, TV.wIsiT, List.append_nil, TV.wEither, TV.wGet2, TV.wDict1, TV.wDictZip, TV.sumIC, TV.wiZip, TV.wCallL, TV.mulTD]
        have cd := cut_drawn (ins := ins) fdr (b : Int)
        have cf : (cutF ins fd (b : Int)).length ≤ 3 := by rw [cutF_len fl]; exact few
        refine ⟨rfl, _, _, ins, gs, fd, b, rfl, rfl, .inr rfl, fl, few, fdo, rh, by omega, small_lt (by omega), ?_⟩
        refine ⟨rfl, _, _, ins, gs, fd, b, rfl, rfl, .inl rfl, fl, few, fdo, rh, by omega, small_lt (by omega), ?_⟩
        refine ⟨show 2 ≤ 100000 by decide, repr_two cf cd rfl ⟨show 2 ≤ 100000 by decide, repr_two cf cd rfl ?_⟩⟩
        simp only [TV.wSeq, TV.wIf, TV.wOr, TV.wNot, TV.wAnd, TV.wAndV, TV.wOrV, TV.wNotV, TV.wIfE, TV.wTru, TV.wCB, TV.wCons, TV.wVar, TV.wC, TV.wNil, TV.wTest, TV.wChain, TV.wRet, TV.wRetN, TV.wNext, TV.wSet, TV.wDrop, TV.wFrz, TV.wMut, TV.wDisp, TV.wTup, TV.wOp, TV.wCall, TV.wDget, TV.wDput, TV.wFor, TV.wLc, TV.wiL, TV.wiT, TV.wiS, TV.wiR1, TV.wiR2, TV.wiEnumS, TV.wiEnum, TV.wgName, TV.wgTup, TV.wgCons, TV.wgNil, TV.wPar, TV.wPar3, TV.wAsg, TV.wUn, TV.wBM, TV.wApp, TV.wSetI, TV.wListC, TV.wSlL, TV.wSlS, TV.wSlT, TV.wNo, TV.wPart, TV.wYes, TV.wRev, TV.wMelt, TV.wNever, TV.wipe0, TV.wDictM, TV.wDictF, TV.wDict0F, TV.wPairs, List.getElem?_cons_zero, List.getElem?_cons_succ, List.set_cons_zero, List.set_cons_succ, Option.some.injEq, exists_eq_left', exists_eq_left, List.cons.injEq, and_true, true_and, TV.D.str.injEq, TV.D.int.injEq, TV.D.bl.injEq, TV.D.lst.injEq, TV.D.tup.injEq, TV.D.obj.injEq, List.map_cons, List.map_nil, TV.cmpD, TV.subD, TV.intD, TV.inSD, TV.ninSD, TV.isND, TV.notND, TV.isBD, TV.divmodC, TV.absC, isiC', TV.len_str, TV.len_lst, TV.len_tup, TV.tru_bl, TV.tru_int, TV.tru_str, TV.tru_lst, TV.tru_tup, TV.add_int, TV.add_str, TV.add_lst, TV.add_tup, TV.mul_int, TV.mul_str, TV.ix_str, TV.ix_lst, TV.ix_tup, TV.count_str, TV.eq_str, TV.ne_str, TV.eq_int, TV.ne_int, TV.eq_lst, TV.ne_lst, TV.sgx, TV.vw_non, TV.vw_bl, TV.vw_int, TV.vw_str, TV.vw_tup, TV.vw_lst, TV.vw_fro, TV.vw_dct, TV.key_str, TV.key_int, false_or, or_false, List.length_nil, TV.ty_non, TV.ty_bl, TV.ty_int, TV.ty_str, TV.ty_tup, TV.ty_lst, TV.ty_dct, TV.tn_str, TV.tn_int, TV.tn_bool, TV.tn_list, TV.tn_tuple, TV.tn_dict, TV.isT, String.reduceBEq, Bool.and_false, Bool.or_false, Bool.false_and, Bool.and_true, Bool.true_or, Bool.or_true, and_assoc, TV.D.ty.injEq, reduceCtorEq, exists_const, exists_and_left, exists_and_right, if_true, if_false, Bool.not_true, Bool.not_false, Bool.false_eq_true, reduceIte, TV.wExt, TV.wPop, TV.wPopAt, TV.wChg, TV.wAny, TV.wAug, TV.wWhile, TV.kgetD, TV.kinD, TV.wLenSet, TV.wLenO, TV.wEqO, TV.wMakeF, TV.wMeth, TV.wFld, TV.wSetF, TV.sumC, TV.minC, TV.maxC, TV.lcmC, TV.isiO, TV.wLc2, TV.wSlT, TV.wIsiT, List.append_nil, TV.wEither, TV.wGet2, TV.wDict1, TV.wDictZip, TV.sumIC, TV.wiZip, TV.wCallL, TV.mulTD]
        rw [if_neg (by simp)]
        exact hR _ _ ⟨rfl, rfl⟩
      rintro ρ13 M13 ⟨rfl, rfl⟩
      simp only [TV.wSeq, TV.wIf, TV.wOr, TV.wNot, TV.wAnd, TV.wAndV, TV.wOrV, TV.wNotV, TV.wIfE, TV.wTru, TV.wCB, TV.wCons, TV.wVar, TV.wC, TV.wNil, TV.wTest, TV.wChain, TV.wRet, TV.wRetN, TV.wNext, TV.wSet, TV.wDrop, TV.wFrz, TV.wMut, TV.wDisp, TV.wTup, TV.wOp, TV.wCall, TV.wDget, TV.wDput, TV.wFor, TV.wLc, TV.wiL, TV.wiT, TV.wiS, TV.wiR1, TV.wiR2, TV.wiEnumS, TV.wiEnum, TV.wgName, TV.wgTup, TV.wgCons, TV.wgNil, TV.wPar, TV.wPar3, TV.wAsg, TV.wUn, TV.wBM, TV.wApp, TV.wSetI, TV.wListC, TV.wSlL, TV.wSlS, TV.wSlT, TV.wNo, TV.wPart, TV.wYes, TV.wRev, TV.wMelt, TV.wNever, TV.wipe0, TV.wDictM, TV.wDictF, TV.wDict0F, TV.wPairs, List.getElem?_cons_zero, List.getElem?_cons_succ, List.set_cons_zero, List.set_cons_succ, Option.some.injEq, exists_eq_left', exists_eq_left, List.cons.injEq, and_true, true_and, TV.D.str.injEq, TV.D.int.injEq, TV.D.bl.injEq, TV.D.lst.injEq, TV.D.tup.injEq, TV.D.obj.injEq, List.map_cons, List.map_nil, TV.cmpD, TV.subD, TV.intD, TV.inSD, TV.ninSD, TV.isND, TV.notND, TV.isBD, TV.divmodC, TV.absC, isiC', TV.len_str, TV.len_lst, TV.len_tup, TV.tru_bl, TV.tru_int, TV.tru_str, TV.tru_lst, TV.tru_tup, TV.add_int, TV.add_str, TV.add_lst, TV.add_tup, TV.mul_int, TV.mul_str, TV.ix_str, TV.ix_lst, TV.ix_tup, TV.count_str, TV.eq_str, TV.ne_str, TV.eq_int, TV.ne_int, TV.eq_lst, TV.ne_lst, TV.sgx, TV.vw_non, TV.vw_bl, TV.vw_int, TV.vw_str, TV.vw_tup, TV.vw_lst, TV.vw_fro, TV.vw_dct, TV.key_str, TV.key_int, false_or, or_false, List.length_nil, TV.ty_non, TV.ty_bl, TV.ty_int, TV.ty_str, TV.ty_tup, TV.ty_lst, TV.ty_dct, TV.tn_str, TV.tn_int, TV.tn_bool, TV.tn_list, TV.tn_tuple, TV.tn_dict, TV.isT, String.reduceBEq, Bool.and_false, Bool.or_false, Bool.false_and, Bool.and_true, Bool.true_or, Bool.or_true, and_assoc, TV.D.ty.injEq, reduceCtorEq, exists_const, exists_and_left, exists_and_right, if_true, if_false, Bool.not_true, Bool.not_false, Bool.false_eq_true, reduceIte, TV.wExt, TV.wPop, TV.wPopAt, TV.wChg, TV.wAny, TV.wAug, TV.wWhile, TV.kgetD, TV.kinD, TV.wLenSet, TV.wLenO, TV.wEqO, TV.wMakeF, TV.wMeth, TV.wFld, TV.wSetF, TV.sumC, TV.minC, TV.maxC, TV.lcmC, TV.isiO, TV.wLc2, TV.wSlT, TV.wIsiT, List.append_nil, TV.wEither, TV.wGet2, TV.wDict1, TV.wDictZip, TV.sumIC, TV.wiZip, TV.wCallL, TV.mulTD]
      refine ⟨fun _ ρ' M' => ∃ d15, Pen p (1000 * i + 610) M' ∧ ρ' = [some (.fro (cs.map D.int)), some (.obj p), some (.int i), some (.lst (ins.map ilD)), some (.lst (gs.map Gt.d)), some (.ins T.C_Web (webOf ins gs)), some (.lst [.int b1, .int b2, .int 0]), some (.tup (fd.map rowD)), some (.int b), some (.lst ((inputsN ins b).map pairD)), d10, d11, some (.lst ((List.range ins.length).map fun k => D.lst ((rowN ins b k).map fun n : Nat => D.int n))), some (.tup ((cutF ins fd b).map rowD)), some (.bl (endlessB ins fd b)), d15, d16, d17, d18, d19], ⟨_, pen9, rfl⟩, ?_, ?_⟩
      · rintro j d ρ' M' he ⟨d15, pen', rfl⟩
        obtain ⟨m, hm, rfl⟩ := beat3 b1l b2l he
        simp only [TV.wSeq, TV.wIf, TV.wOr, TV.wNot, TV.wAnd, TV.wAndV, TV.wOrV, TV.wNotV, TV.wIfE, TV.wTru, TV.wCB, TV.wCons, TV.wVar, TV.wC, TV.wNil, TV.wTest, TV.wChain, TV.wRet, TV.wRetN, TV.wNext, TV.wSet, TV.wDrop, TV.wFrz, TV.wMut, TV.wDisp, TV.wTup, TV.wOp, TV.wCall, TV.wDget, TV.wDput, TV.wFor, TV.wLc, TV.wiL, TV.wiT, TV.wiS, TV.wiR1, TV.wiR2, TV.wiEnumS, TV.wiEnum, TV.wgName, TV.wgTup, TV.wgCons, TV.wgNil, TV.wPar, TV.wPar3, TV.wAsg, TV.wUn, TV.wBM, TV.wApp, TV.wSetI, TV.wListC, TV.wSlL, TV.wSlS, TV.wSlT, TV.wNo, TV.wPart, TV.wYes, TV.wRev, TV.wMelt, TV.wNever, TV.wipe0, TV.wDictM, TV.wDictF, TV.wDict0F, TV.wPairs, List.getElem?_cons_zero, List.getElem?_cons_succ, List.set_cons_zero, List.set_cons_succ, Option.some.injEq, exists_eq_left', exists_eq_left, List.cons.injEq, and_true, true_and, TV.D.str.injEq, TV.D.int.injEq, TV.D.bl.injEq, TV.D.lst.injEq, TV.D.tup.injEq, TV.D.obj.injEq, List.map_cons, List.map_nil, TV.cmpD, TV.subD, TV.intD, TV.inSD, TV.ninSD, TV.isND, TV.notND, TV.isBD, TV.divmodC, TV.absC, isiC', TV.len_str, TV.len_lst, TV.len_tup, TV.tru_bl, TV.tru_int, TV.tru_str, TV.tru_lst, TV.tru_tup, TV.add_int, TV.add_str, TV.add_lst, TV.add_tup, TV.mul_int, TV.mul_str, TV.ix_str, TV.ix_lst, TV.ix_tup, TV.count_str, TV.eq_str, TV.ne_str, TV.eq_int, TV.ne_int, TV.eq_lst, TV.ne_lst, TV.sgx, TV.vw_non, TV.vw_bl, TV.vw_int, TV.vw_str, TV.vw_tup, TV.vw_lst, TV.vw_fro, TV.vw_dct, TV.key_str, TV.key_int, false_or, or_false, List.length_nil, TV.ty_non, TV.ty_bl, TV.ty_int, TV.ty_str, TV.ty_tup, TV.ty_lst, TV.ty_dct, TV.tn_str, TV.tn_int, TV.tn_bool, TV.tn_list, TV.tn_tuple, TV.tn_dict, TV.isT, String.reduceBEq, Bool.and_false, Bool.or_false, Bool.false_and, Bool.and_true, Bool.true_or, Bool.or_true, and_assoc, TV.D.ty.injEq, reduceCtorEq, exists_const, exists_and_left, exists_and_right, if_true, if_false, Bool.not_true, Bool.not_false, Bool.false_eq_true, reduceIte, TV.wExt, TV.wPop, TV.wPopAt, TV.wChg, TV.wAny, TV.wAug, TV.wWhile, TV.kgetD, TV.kinD, TV.wLenSet, TV.wLenO, TV.wEqO, TV.wMakeF, TV.wMeth, TV.wFld, TV.wSetF, TV.sumC, TV.minC, TV.maxC, TV.lcmC, TV.isiO, TV.wLc2, TV.wSlT, TV.wIsiT, List.append_nil, TV.wEither, TV.wGet2, TV.wDict1, TV.wDictZip, TV.sumIC, TV.wiZip, TV.wCallL, TV.mulTD]
        have cd := cut_drawn (ins := ins) fdr (b : Int)
        have cf : (cutF ins fd (b : Int)).length = ins.length := cutF_len fl _
        refine ⟨rfl, _, _, ins, gs, fd, b, rfl, rfl, .inr rfl, fl, few, fdo, rh, by omega, small_lt (by omega), ?_⟩
        refine ⟨rfl, _, _, ins, gs, cutF ins fd b, m, rfl, rfl, .inr rfl, cf, few, fun r hr => drawn_row (cd r hr), rh, by omega, small_lt (by omega), ?_⟩
        rw [show (if (m : Int) < (b : Int) then (m : Int) else (b : Int)) = ((min b m : Nat) : Int) by split <;> omega]
        refine ⟨rfl, _, _, ins, gs, fd, _, rfl, rfl, .inr rfl, fl, few, fdo, rh, by omega, small_lt (by omega), ?_⟩
        rw [cut_cut rh fl]
        refine ne_feed (by rw [cutF_len fl]; exact few) (cut_drawn fdr _) ⟨_, rfl, ?_⟩
        rw [if_neg (by decide)]
        exact ⟨pen', _, rfl⟩
      · rintro ρ' M' ⟨d15, pen', rfl⟩
        exact hE3 _ _ ⟨_, _, _, _, _, _, _, _, _, _, _, _, pen', rfl⟩
    rintro ρ7 M7 ⟨d8, d9, d10, d11, d12, d13, d14, d15, d16, d17, d18, d19, pen7, rfl⟩
    refine cut1 (fun ρ' M8 => ∃ d8 d9 d10 d11 d12 d13 d14 d15 d16 d17 d18 d19, Pen p (1000 * i + 620) M8 ∧ ρ' = [some (.fro (cs.map D.int)), some (.obj p), some (.int i), some (.lst (ins.map ilD)), some (.lst (gs.map Gt.d)), some (.ins T.C_Web (webOf ins gs)), some (.lst [.int b1, .int b2, .int 0]), some (.tup (fd.map rowD)), d8, d9, d10, d11, d12, d13, d14, d15, d16, d17, d18, d19]) ?_ ?_
    · intro R hR
      simp only [TV.wSeq, TV.wIf, TV.wOr, TV.wNot, TV.wAnd, TV.wAndV, TV.wOrV, TV.wNotV, TV.wIfE, TV.wTru, TV.wCB, TV.wCons, TV.wVar, TV.wC, TV.wNil, TV.wTest, TV.wChain, TV.wRet, TV.wRetN, TV.wNext, TV.wSet, TV.wDrop, TV.wFrz, TV.wMut, TV.wDisp, TV.wTup, TV.wOp, TV.wCall, TV.wDget, TV.wDput, TV.wFor, TV.wLc, TV.wiL, TV.wiT, TV.wiS, TV.wiR1, TV.wiR2, TV.wiEnumS, TV.wiEnum, TV.wgName, TV.wgTup, TV.wgCons, TV.wgNil, TV.wPar, TV.wPar3, TV.wAsg, TV.wUn, TV.wBM, TV.wApp, TV.wSetI, TV.wListC, TV.wSlL, TV.wSlS, TV.wSlT, TV.wNo, TV.wPart, TV.wYes, TV.wRev, TV.wMelt, TV.wNever, TV.wipe0, TV.wDictM, TV.wDictF, TV.wDict0F, TV.wPairs, List.getElem?_cons_zero, List.getElem?_cons_succ, List.set_cons_zero, List.set_cons_succ, Option.some.injEq, exists_eq_left', exists_eq_left, List.cons.injEq, and_true, true_and, TV.D.str.injEq, TV.D.int.injEq, TV.D.bl.injEq, TV.D.lst.injEq, TV.D.tup.injEq, TV.D.obj.injEq, List.map_cons, List.map_nil, TV.cmpD, TV.subD, TV.intD, TV.inSD, TV.ninSD, TV.isND, TV.notND, TV.isBD, TV.divmodC, TV.absC, isiC', TV.len_str, TV.len_lst, TV.len_tup, TV.tru_bl, TV.tru_int, TV.tru_str, TV.tru_lst, TV.tru_tup, TV.add_int, TV.add_str, TV.add_lst, TV.add_tup, TV.mul_int, TV.mul_str, TV.ix_str, TV.ix_lst, TV.ix_tup, TV.count_str, TV.eq_str, TV.ne_str, TV.eq_int, TV.ne_int, TV.eq_lst, TV.ne_lst, TV.sgx, TV.vw_non, TV.vw_bl, TV.vw_int, TV.vw_str, TV.vw_tup, TV.vw_lst, TV.vw_fro, TV.vw_dct, TV.key_str, TV.key_int, false_or, or_false, List.length_nil, TV.ty_non, TV.ty_bl, TV.ty_int, TV.ty_str, TV.ty_tup, TV.ty_lst, TV.ty_dct, TV.tn_str, TV.tn_int, TV.tn_bool, TV.tn_list, TV.tn_tuple, TV.tn_dict, TV.isT, String.reduceBEq, Bool.and_false, Bool.or_false, Bool.false_and, Bool.and_true, Bool.true_or, Bool.or_true, and_assoc, TV.D.ty.injEq, reduceCtorEq, exists_const, exists_and_left, exists_and_right, if_true, if_false, Bool.not_true, Bool.not_false, Bool.false_eq_true, reduceIte, TV.wExt, TV.wPop, TV.wPopAt, TV.wChg, TV.wAny, TV.wAug, TV.wWhile, TV.kgetD, TV.kinD, TV.wLenSet, TV.wLenO, TV.wEqO, TV.wMakeF, TV.wMeth, TV.wFld, TV.wSetF, TV.sumC, TV.minC, TV.maxC, TV.lcmC, TV.isiO, TV.wLc2, TV.wSlT, TV.wIsiT, List.append_nil, TV.wEither, TV.wGet2, TV.wDict1, TV.wDictZip, TV.sumIC, TV.wiZip, TV.wCallL, TV.mulTD]
      refine ⟨⟨by decide, by decide, by decide⟩, ⟨by decide, by decide, by decide⟩, pen_draw pen7 (by omega) (by decide) (small_lt (by decide)) fun v M' v0 v1 pen' => ⟨v, rfl, show 2 ≤ 100000 by decide, fun _ ρ' M' => ∃ d8 d9 d10 d11 d12 d13 d14 d15 d16 d17 d18 d19, Pen p (1000 * i + 620) M' ∧ ρ' = [some (.fro (cs.map D.int)), some (.obj p), some (.int i), some (.lst (ins.map ilD)), some (.lst (gs.map Gt.d)), some (.ins T.C_Web (webOf ins gs)), some (.lst [.int b1, .int b2, .int 0]), some (.tup (fd.map rowD)), d8, d9, d10, d11, d12, d13, d14, d15, d16, d17, d18, d19], ⟨_, _, _, _, _, _, _, _, _, _, _, _, pen'.up (by omega), rfl⟩, ?_, fun ρ' M' h => hR _ _ h⟩⟩
      rintro j d ρ' M' he ⟨d8, d9, d10, d11, d12, d13, d14, d15, d16, d17, d18, d19, pen2, rfl⟩
      obtain ⟨f, f0, f1, rfl⟩ := far2 v0 v1 he
      simp only [TV.wSeq, TV.wIf, TV.wOr, TV.wNot, TV.wAnd, TV.wAndV, TV.wOrV, TV.wNotV, TV.wIfE, TV.wTru, TV.wCB, TV.wCons, TV.wVar, TV.wC, TV.wNil, TV.wTest, TV.wChain, TV.wRet, TV.wRetN, TV.wNext, TV.wSet, TV.wDrop, TV.wFrz, TV.wMut, TV.wDisp, TV.wTup, TV.wOp, TV.wCall, TV.wDget, TV.wDput, TV.wFor, TV.wLc, TV.wiL, TV.wiT, TV.wiS, TV.wiR1, TV.wiR2, TV.wiEnumS, TV.wiEnum, TV.wgName, TV.wgTup, TV.wgCons, TV.wgNil, TV.wPar, TV.wPar3, TV.wAsg, TV.wUn, TV.wBM, TV.wApp, TV.wSetI, TV.wListC, TV.wSlL, TV.wSlS, TV.wSlT, TV.wNo, TV.wPart, TV.wYes, TV.wRev, TV.wMelt, TV.wNever, TV.wipe0, TV.wDictM, TV.wDictF, TV.wDict0F, TV.wPairs, List.getElem?_cons_zero, List.getElem?_cons_succ, List.set_cons_zero, List.set_cons_succ, Option.some.injEq, exists_eq_left', exists_eq_left, List.cons.injEq, and_true, true_and, TV.D.str.injEq, TV.D.int.injEq, TV.D.bl.injEq, TV.D.lst.injEq, TV.D.tup.injEq, TV.D.obj.injEq, List.map_cons, List.map_nil, TV.cmpD, TV.subD, TV.intD, TV.inSD, TV.ninSD, TV.isND, TV.notND, TV.isBD, TV.divmodC, TV.absC, isiC', TV.len_str, TV.len_lst, TV.len_tup, TV.tru_bl, TV.tru_int, TV.tru_str, TV.tru_lst, TV.tru_tup, TV.add_int, TV.add_str, TV.add_lst, TV.add_tup, TV.mul_int, TV.mul_str, TV.ix_str, TV.ix_lst, TV.ix_tup, TV.count_str, TV.eq_str, TV.ne_str, TV.eq_int, TV.ne_int, TV.eq_lst, TV.ne_lst, TV.sgx, TV.vw_non, TV.vw_bl, TV.vw_int, TV.vw_str, TV.vw_tup, TV.vw_lst, TV.vw_fro, TV.vw_dct, TV.key_str, TV.key_int, false_or, or_false, List.length_nil, TV.ty_non, TV.ty_bl, TV.ty_int, TV.ty_str, TV.ty_tup, TV.ty_lst, TV.ty_dct, TV.tn_str, TV.tn_int, TV.tn_bool, TV.tn_list, TV.tn_tuple, TV.tn_dict, TV.isT, String.reduceBEq, Bool.and_false, Bool.or_false, Bool.false_and, Bool.and_true, Bool.true_or, Bool.or_true, and_assoc, TV.D.ty.injEq, reduceCtorEq, exists_const, exists_and_left, exists_and_right, if_true, if_false, Bool.not_true, Bool.not_false, Bool.false_eq_true, reduceIte, TV.wExt, TV.wPop, TV.wPopAt, TV.wChg, TV.wAny, TV.wAug, TV.wWhile, TV.kgetD, TV.kinD, TV.wLenSet, TV.wLenO, TV.wEqO, TV.wMakeF, TV.wMeth, TV.wFld, TV.wSetF, TV.sumC, TV.minC, TV.maxC, TV.lcmC, TV.isiO, TV.wLc2, TV.wSlT, TV.wIsiT, List.append_nil, TV.wEither, TV.wGet2, TV.wDict1, TV.wDictZip, TV.sumIC, TV.wiZip, TV.wCallL, TV.mulTD]
      refine ⟨rfl, _, _, ins, gs, fd, f, rfl, rfl, .inr rfl, fl, few, fdo, rh, by omega, f1, ?_⟩
      refine ⟨rfl, _, _, ins, gs, fd, f, rfl, rfl, .inr rfl, fl, few, fdo, rh, by omega, f1, ?_⟩
      refine ⟨rfl, _, _, ins, gs, fd, f, rfl, rfl, .inr rfl, fl, few, fdo, rh, by omega, f1, ?_⟩
      rw [cut_far rh fl fdr f0, left_far rh fl fdr f0, end_far one rh fl fdr f0]
      have le0 : ∀ r ∈ List.replicate ins.length ([] : List Int), drawn r := fun r hr => by
        rw [(List.mem_replicate.mp hr).2]
        exact ⟨by decide, fun i hi => by cases hi⟩
      have lf : (List.replicate ins.length ([] : List Int)).length ≤ 3 := by rw [List.length_replicate]; exact few
      have fl3 : fd.length ≤ 3 := by omega
      refine ⟨show 3 ≤ 100000 by decide, fun q hq => repr_three fl3 lf fdr le0 (vw_obj_lst updM_at) ⟨by decide, show 1 ≤ 100000 by decide, by rw [List.length_map]; omega, by rw [List.length_map]; omega, show 1 ≤ 1 by decide, show 1 ≤ 1000 by decide, show 3 ≤ 100000 by decide, ?_⟩⟩
      have ef : (List.replicate (↑(List.map ilD ins).length : Int).toNat [D.tup []]).flatten = (List.replicate ins.length ([] : List Int)).map rowD := by
        rw [Int.toNat_natCast, List.length_map, List.map_replicate]
        show (List.replicate ins.length [rowD []]).flatten = _
        rw [List.flatten_replicate_singleton]
      rw [ef]
      refine repr_three fl3 lf fdr le0 rfl ?_
      simp only [TV.wSeq, TV.wIf, TV.wOr, TV.wNot, TV.wAnd, TV.wAndV, TV.wOrV, TV.wNotV, TV.wIfE, TV.wTru, TV.wCB, TV.wCons, TV.wVar, TV.wC, TV.wNil, TV.wTest, TV.wChain, TV.wRet, TV.wRetN, TV.wNext, TV.wSet, TV.wDrop, TV.wFrz, TV.wMut, TV.wDisp, TV.wTup, TV.wOp, TV.wCall, TV.wDget, TV.wDput, TV.wFor, TV.wLc, TV.wiL, TV.wiT, TV.wiS, TV.wiR1, TV.wiR2, TV.wiEnumS, TV.wiEnum, TV.wgName, TV.wgTup, TV.wgCons, TV.wgNil, TV.wPar, TV.wPar3, TV.wAsg, TV.wUn, TV.wBM, TV.wApp, TV.wSetI, TV.wListC, TV.wSlL, TV.wSlS, TV.wSlT, TV.wNo, TV.wPart, TV.wYes, TV.wRev, TV.wMelt, TV.wNever, TV.wipe0, TV.wDictM, TV.wDictF, TV.wDict0F, TV.wPairs, List.getElem?_cons_zero, List.getElem?_cons_succ, List.set_cons_zero, List.set_cons_succ, Option.some.injEq, exists_eq_left', exists_eq_left, List.cons.injEq, and_true, true_and, TV.D.str.injEq, TV.D.int.injEq, TV.D.bl.injEq, TV.D.lst.injEq, TV.D.tup.injEq, TV.D.obj.injEq, List.map_cons, List.map_nil, TV.cmpD, TV.subD, TV.intD, TV.inSD, TV.ninSD, TV.isND, TV.notND, TV.isBD, TV.divmodC, TV.absC, isiC', TV.len_str, TV.len_lst, TV.len_tup, TV.tru_bl, TV.tru_int, TV.tru_str, TV.tru_lst, TV.tru_tup, TV.add_int, TV.add_str, TV.add_lst, TV.add_tup, TV.mul_int, TV.mul_str, TV.ix_str, TV.ix_lst, TV.ix_tup, TV.count_str, TV.eq_str, TV.ne_str, TV.eq_int, TV.ne_int, TV.eq_lst, TV.ne_lst, TV.sgx, TV.vw_non, TV.vw_bl, TV.vw_int, TV.vw_str, TV.vw_tup, TV.vw_lst, TV.vw_fro, TV.vw_dct, TV.key_str, TV.key_int, false_or, or_false, List.length_nil, TV.ty_non, TV.ty_bl, TV.ty_int, TV.ty_str, TV.ty_tup, TV.ty_lst, TV.ty_dct, TV.tn_str, TV.tn_int, TV.tn_bool, TV.tn_list, TV.tn_tuple, TV.tn_dict, TV.isT, String.reduceBEq, Bool.and_false, Bool.or_false, Bool.false_and, Bool.and_true, Bool.true_or, Bool.or_true, and_assoc, TV.D.ty.injEq, reduceCtorEq, exists_const, exists_and_left, exists_and_right, if_true, if_false, Bool.not_true, Bool.not_false, Bool.false_eq_true, reduceIte, TV.wExt, TV.wPop, TV.wPopAt, TV.wChg, TV.wAny, TV.wAug, TV.wWhile, TV.kgetD, TV.kinD, TV.wLenSet, TV.wLenO, TV.wEqO, TV.wMakeF, TV.wMeth, TV.wFld, TV.wSetF, TV.sumC, TV.minC, TV.maxC, TV.lcmC, TV.isiO, TV.wLc2, TV.wSlT, TV.wIsiT, List.append_nil, TV.wEither, TV.wGet2, TV.wDict1, TV.wDictZip, TV.sumIC, TV.wiZip, TV.wCallL, TV.mulTD]
      rw [if_neg (by simp)]
      exact ⟨pen2.old hq, _, rfl⟩
    rintro ρ8 M8 ⟨d8, d9, d10, d11, d12, d13, d14, d15, d16, d17, d18, d19, pen8, rfl⟩
    simp only [TV.wSeq, TV.wIf, TV.wOr, TV.wNot, TV.wAnd, TV.wAndV, TV.wOrV, TV.wNotV, TV.wIfE, TV.wTru, TV.wCB, TV.wCons, TV.wVar, TV.wC, TV.wNil, TV.wTest, TV.wChain, TV.wRet, TV.wRetN, TV.wNext, TV.wSet, TV.wDrop, TV.wFrz, TV.wMut, TV.wDisp, TV.wTup, TV.wOp, TV.wCall, TV.wDget, TV.wDput, TV.wFor, TV.wLc, TV.wiL, TV.wiT, TV.wiS, TV.wiR1, TV.wiR2, TV.wiEnumS, TV.wiEnum, TV.wgName, TV.wgTup, TV.wgCons, TV.wgNil, TV.wPar, TV.wPar3, TV.wAsg, TV.wUn, TV.wBM, TV.wApp, TV.wSetI, TV.wListC, TV.wSlL, TV.wSlS, TV.wSlT, TV.wNo, TV.wPart, TV.wYes, TV.wRev, TV.wMelt, TV.wNever, TV.wipe0, TV.wDictM, TV.wDictF, TV.wDict0F, TV.wPairs, List.getElem?_cons_zero, List.getElem?_cons_succ, List.set_cons_zero, List.set_cons_succ, Option.some.injEq, exists_eq_left', exists_eq_left, List.cons.injEq, and_true, true_and, TV.D.str.injEq, TV.D.int.injEq, TV.D.bl.injEq, TV.D.lst.injEq, TV.D.tup.injEq, TV.D.obj.injEq, List.map_cons, List.map_nil, TV.cmpD, TV.subD, TV.intD, TV.inSD, TV.ninSD, TV.isND, TV.notND, TV.isBD, TV.divmodC, TV.absC, isiC', TV.len_str, TV.len_lst, TV.len_tup, TV.tru_bl, TV.tru_int, TV.tru_str, TV.tru_lst, TV.tru_tup, TV.add_int, TV.add_str, TV.add_lst, TV.add_tup, TV.mul_int, TV.mul_str, TV.ix_str, TV.ix_lst, TV.ix_tup, TV.count_str, TV.eq_str, TV.ne_str, TV.eq_int, TV.ne_int, TV.eq_lst, TV.ne_lst, TV.sgx, TV.vw_non, TV.vw_bl, TV.vw_int, TV.vw_str, TV.vw_tup, TV.vw_lst, TV.vw_fro, TV.vw_dct, TV.key_str, TV.key_int, false_or, or_false, List.length_nil, TV.ty_non, TV.ty_bl, TV.ty_int, TV.ty_str, TV.ty_tup, TV.ty_lst, TV.ty_dct, TV.tn_str, TV.tn_int, TV.tn_bool, TV.tn_list, TV.tn_tuple, TV.tn_dict, TV.isT, String.reduceBEq, Bool.and_false, Bool.or_false, Bool.false_and, Bool.and_true, Bool.true_or, Bool.or_true, and_assoc, TV.D.ty.injEq, reduceCtorEq, exists_const, exists_and_left, exists_and_right, if_true, if_false, Bool.not_true, Bool.not_false, Bool.false_eq_true, reduceIte, TV.wExt, TV.wPop, TV.wPopAt, TV.wChg, TV.wAny, TV.wAug, TV.wWhile, TV.kgetD, TV.kinD, TV.wLenSet, TV.wLenO, TV.wEqO, TV.wMakeF, TV.wMeth, TV.wFld, TV.wSetF, TV.sumC, TV.minC, TV.maxC, TV.lcmC, TV.isiO, TV.wLc2, TV.wSlT, TV.wIsiT, List.append_nil, TV.wEither, TV.wGet2, TV.wDict1, TV.wDictZip, TV.sumIC, TV.wiZip, TV.wCallL, TV.mulTD]
    refine ⟨rfl, ins, gs, 600, rfl, rh, few, by decide, .inl (repr_due few (by decide) rfl ?_)⟩
    refine ⟨rfl, ins, 600, rfl, rh, few, by decide, repr_due few (by decide) rfl ?_⟩
    simp only [TV.wSeq, TV.wIf, TV.wOr, TV.wNot, TV.wAnd, TV.wAndV, TV.wOrV, TV.wNotV, TV.wIfE, TV.wTru, TV.wCB, TV.wCons, TV.wVar, TV.wC, TV.wNil, TV.wTest, TV.wChain, TV.wRet, TV.wRetN, TV.wNext, TV.wSet, TV.wDrop, TV.wFrz, TV.wMut, TV.wDisp, TV.wTup, TV.wOp, TV.wCall, TV.wDget, TV.wDput, TV.wFor, TV.wLc, TV.wiL, TV.wiT, TV.wiS, TV.wiR1, TV.wiR2, TV.wiEnumS, TV.wiEnum, TV.wgName, TV.wgTup, TV.wgCons, TV.wgNil, TV.wPar, TV.wPar3, TV.wAsg, TV.wUn, TV.wBM, TV.wApp, TV.wSetI, TV.wListC, TV.wSlL, TV.wSlS, TV.wSlT, TV.wNo, TV.wPart, TV.wYes, TV.wRev, TV.wMelt, TV.wNever, TV.wipe0, TV.wDictM, TV.wDictF, TV.wDict0F, TV.wPairs, List.getElem?_cons_zero, List.getElem?_cons_succ, List.set_cons_zero, List.set_cons_succ, Option.some.injEq, exists_eq_left', exists_eq_left, List.cons.injEq, and_true, true_and, TV.D.str.injEq, TV.D.int.injEq, TV.D.bl.injEq, TV.D.lst.injEq, TV.D.tup.injEq, TV.D.obj.injEq, List.map_cons, List.map_nil, TV.cmpD, TV.subD, TV.intD, TV.inSD, TV.ninSD, TV.isND, TV.notND, TV.isBD, TV.divmodC, TV.absC, isiC', TV.len_str, TV.len_lst, TV.len_tup, TV.tru_bl, TV.tru_int, TV.tru_str, TV.tru_lst, TV.tru_tup, TV.add_int, TV.add_str, TV.add_lst, TV.add_tup, TV.mul_int, TV.mul_str, TV.ix_str, TV.ix_lst, TV.ix_tup, TV.count_str, TV.eq_str, TV.ne_str, TV.eq_int, TV.ne_int, TV.eq_lst, TV.ne_lst, TV.sgx, TV.vw_non, TV.vw_bl, TV.vw_int, TV.vw_str, TV.vw_tup, TV.vw_lst, TV.vw_fro, TV.vw_dct, TV.key_str, TV.key_int, false_or, or_false, List.length_nil, TV.ty_non, TV.ty_bl, TV.ty_int, TV.ty_str, TV.ty_tup, TV.ty_lst, TV.ty_dct, TV.tn_str, TV.tn_int, TV.tn_bool, TV.tn_list, TV.tn_tuple, TV.tn_dict, TV.isT, String.reduceBEq, Bool.and_false, Bool.or_false, Bool.false_and, Bool.and_true, Bool.true_or, Bool.or_true, and_assoc, TV.D.ty.injEq, reduceCtorEq, exists_const, exists_and_left, exists_and_right, if_true, if_false, Bool.not_true, Bool.not_false, Bool.false_eq_true, reduceIte, TV.wExt, TV.wPop, TV.wPopAt, TV.wChg, TV.wAny, TV.wAug, TV.wWhile, TV.kgetD, TV.kinD, TV.wLenSet, TV.wLenO, TV.wEqO, TV.wMakeF, TV.wMeth, TV.wFld, TV.wSetF, TV.sumC, TV.minC, TV.maxC, TV.lcmC, TV.isiO, TV.wLc2, TV.wSlT, TV.wIsiT, List.append_nil, TV.wEither, TV.wGet2, TV.wDict1, TV.wDictZip, TV.sumIC, TV.wiZip, TV.wCallL, TV.mulTD]
    rw [if_neg (by simp)]
    exact hE _ _ ⟨_, rfl, pen8.up (by omega), rfl⟩
  · rintro ρ' M' ⟨r, rl, pen, rfl⟩
    simp only [TV.wSeq, TV.wIf, TV.wOr, TV.wNot, TV.wAnd, TV.wAndV, TV.wOrV, TV.wNotV, TV.wIfE, TV.wTru, TV.wCB, TV.wCons, TV.wVar, TV.wC, TV.wNil, TV.wTest, TV.wChain, TV.wRet, TV.wRetN, TV.wNext, TV.wSet, TV.wDrop, TV.wFrz, TV.wMut, TV.wDisp, TV.wTup, TV.wOp, TV.wCall, TV.wDget, TV.wDput, TV.wFor, TV.wLc, TV.wiL, TV.wiT, TV.wiS, TV.wiR1, TV.wiR2, TV.wiEnumS, TV.wiEnum, TV.wgName, TV.wgTup, TV.wgCons, TV.wgNil, TV.wPar, TV.wPar3, TV.wAsg, TV.wUn, TV.wBM, TV.wApp, TV.wSetI, TV.wListC, TV.wSlL, TV.wSlS, TV.wSlT, TV.wNo, TV.wPart, TV.wYes, TV.wRev, TV.wMelt, TV.wNever, TV.wipe0, TV.wDictM, TV.wDictF, TV.wDict0F, TV.wPairs, List.getElem?_cons_zero, List.getElem?_cons_succ, List.set_cons_zero, List.set_cons_succ, Option.some.injEq, exists_eq_left', exists_eq_left, List.cons.injEq, and_true, true_and, TV.D.str.injEq, TV.D.int.injEq, TV.D.bl.injEq, TV.D.lst.injEq, TV.D.tup.injEq, TV.D.obj.injEq, List.map_cons, List.map_nil, TV.cmpD, TV.subD, TV.intD, TV.inSD, TV.ninSD, TV.isND, TV.notND, TV.isBD, TV.divmodC, TV.absC, isiC', TV.len_str, TV.len_lst, TV.len_tup, TV.tru_bl, TV.tru_int, TV.tru_str, TV.tru_lst, TV.tru_tup, TV.add_int, TV.add_str, TV.add_lst, TV.add_tup, TV.mul_int, TV.mul_str, TV.ix_str, TV.ix_lst, TV.ix_tup, TV.count_str, TV.eq_str, TV.ne_str, TV.eq_int, TV.ne_int, TV.eq_lst, TV.ne_lst, TV.sgx, TV.vw_non, TV.vw_bl, TV.vw_int, TV.vw_str, TV.vw_tup, TV.vw_lst, TV.vw_fro, TV.vw_dct, TV.key_str, TV.key_int, false_or, or_false, List.length_nil, TV.ty_non, TV.ty_bl, TV.ty_int, TV.ty_str, TV.ty_tup, TV.ty_lst, TV.ty_dct, TV.tn_str, TV.tn_int, TV.tn_bool, TV.tn_list, TV.tn_tuple, TV.tn_dict, TV.isT, String.reduceBEq, Bool.and_false, Bool.or_false, Bool.false_and, Bool.and_true, Bool.true_or, Bool.or_true, and_assoc, TV.D.ty.injEq, reduceCtorEq, exists_const, exists_and_left, exists_and_right, if_true, if_false, Bool.not_true, Bool.not_false, Bool.false_eq_true, reduceIte, TV.wExt, TV.wPop, TV.wPopAt, TV.wChg, TV.wAny, TV.wAug, TV.wWhile, TV.kgetD, TV.kinD, TV.wLenSet, TV.wLenO, TV.wEqO, TV.wMakeF, TV.wMeth, TV.wFld, TV.wSetF, TV.sumC, TV.minC, TV.maxC, TV.lcmC, TV.isiO, TV.wLc2, TV.wSlT, TV.wIsiT, List.append_nil, TV.wEither, TV.wGet2, TV.wDict1, TV.wDictZip, TV.sumIC, TV.wiZip, TV.wCallL, TV.mulTD]
    exact ⟨_, fun _ _ h => (by cases h), hk⟩
end
end K08

set_option Elab.async false
set_option linter.all false
set_option maxRecDepth 100000
set_option maxHeartbeats 4000000
namespace K08
open PySem PySem.Spec PyProof.Rows L2 TV
/-! ### what the top has written -/
theorem no_of {K : PySem.W.Frag} {C : Addr} (h1 : PySem.W.isClsIn K C = true) (h2 : PySem.W.typeIn K (.ref C) = some (.type "type")) (s0 : PySem.W.subIn K (.type "NoneType") (.ref C) = some false) (s1 : PySem.W.subIn K (.type "bool") (.ref C) = some false) (s2 : PySem.W.subIn K (.type "int") (.ref C) = some false) (s3 : PySem.W.subIn K (.type "str") (.ref C) = some false) (s4 : PySem.W.subIn K (.type "tuple") (.ref C) = some false) (s5 : PySem.W.subIn K (.type "list") (.ref C) = some false) (s6 : PySem.W.subIn K (.type "dict") (.ref C) = some false) :
    ∀ T ∈ tyNames, PySem.W.kitOne K (.type T) (.ref C) = some false := by
  have all : ∀ T : String, PySem.W.subIn K (.type T) (.ref C) = some false → PySem.W.kitOne K (.type T) (.ref C) = some false := fun T e => by
    have ne : (Value.type T == Value.ref C) = false := rfl
    have yes : ((PySem.W.clsIn K C).isSome && PySem.W.typeIn K (.ref C) == some (.type "type")) = true := by
      rw [Bool.and_eq_true]
      exact ⟨h1, beq_iff_eq.mpr h2⟩
    unfold PySem.W.kitOne PySem.W.kitCls
    rw [ne, if_neg (by decide)]
    dsimp only
    rw [if_pos yes]
    exact e
  intro T hT
  simp only [tyNames, List.mem_cons, List.not_mem_nil, or_false] at hT
  rcases hT with rfl | rfl | rfl | rfl | rfl | rfl | rfl
  · exact all _ s0
  · exact all _ s1
  · exact all _ s2
  · exact all _ s3
  · exact all _ s4
  · exact all _ s5
  · exact all _ s6
theorem mem_of_lookup {z : Str} {i : Int} : ∀ {tab : List (Str × Int)}, tab.lookup z = some i → (z, i) ∈ tab
  | [], h => by simp at h
  | (k, j) :: tab, h => by
    rw [List.lookup_cons] at h
    split at h
    · rename_i e
      rw [beq_iff_eq.mp e, Option.some.inj h]
      exact List.mem_cons_self
    · exact List.mem_cons_of_mem _ (mem_of_lookup h)
theorem all_mk {l : PySem.W.OpenLaw} {w : World} {K : PySem.W.Frag} {h : Heap} {mg : Str → Option Value} {fa : Addr} (X : K.In h) (G : h.Ns mainGlobals mg) (hfa : mg "law" = some (.ref fa))
    {C_Web : Addr} {f0 : Addr} {od0 an0 : Option Addr} {sl0 : Array (Option Value)} {oc0 kV0 dc0 pm0 cd0 ct0 : Value} {f1 : Addr} {od1 an1 : Option Addr} {sl1 : Array (Option Value)} {oc1 kV1 dc1 pm1 cd1 ct1 : Value} {f2 : Addr} {od2 an2 : Option Addr} {sl2 : Array (Option Value)} {oc2 kV2 dc2 pm2 cd2 ct2 : Value} {f3 : Addr} {od3 an3 : Option Addr} {sl3 : Array (Option Value)} {oc3 kV3 dc3 pm3 cd3 ct3 : Value} {f4 : Addr} {od4 an4 : Option Addr} {sl4 : Array (Option Value)} {oc4 kV4 dc4 pm4 cd4 ct4 : Value} {f5 : Addr} {od5 an5 : Option Addr} {sl5 : Array (Option Value)} {oc5 kV5 dc5 pm5 cd5 ct5 : Value} {f6 : Addr} {od6 an6 : Option Addr} {sl6 : Array (Option Value)} {oc6 kV6 dc6 pm6 cd6 ct6 : Value} {f7 : Addr} {od7 an7 : Option Addr} {sl7 : Array (Option Value)} {oc7 kV7 dc7 pm7 cd7 ct7 : Value} {f8 : Addr} {od8 an8 : Option Addr} {sl8 : Array (Option Value)} {oc8 kV8 dc8 pm8 cd8 ct8 : Value} {f9 : Addr} {od9 an9 : Option Addr} {sl9 : Array (Option Value)} {oc9 kV9 dc9 pm9 cd9 ct9 : Value} {f10 : Addr} {od10 an10 : Option Addr} {sl10 : Array (Option Value)} {oc10 kV10 dc10 pm10 cd10 ct10 : Value} {f11 : Addr} {od11 an11 : Option Addr} {sl11 : Array (Option Value)} {oc11 kV11 dc11 pm11 cd11 ct11 : Value} {f12 : Addr} {od12 an12 : Option Addr} {sl12 : Array (Option Value)} {oc12 kV12 dc12 pm12 cd12 ct12 : Value} {f13 : Addr} {od13 an13 : Option Addr} {sl13 : Array (Option Value)} {oc13 kV13 dc13 pm13 cd13 ct13 : Value} {f14 : Addr} {od14 an14 : Option Addr} {sl14 : Array (Option Value)} {oc14 kV14 dc14 pm14 cd14 ct14 : Value} {f15 : Addr} {od15 an15 : Option Addr} {sl15 : Array (Option Value)} {oc15 kV15 dc15 pm15 cd15 ct15 : Value} {f16 : Addr} {od16 an16 : Option Addr} {sl16 : Array (Option Value)} {oc16 kV16 dc16 pm16 cd16 ct16 : Value} {f17 : Addr} {od17 an17 : Option Addr} {sl17 : Array (Option Value)} {oc17 kV17 dc17 pm17 cd17 ct17 : Value} {f18 : Addr} {od18 an18 : Option Addr} {sl18 : Array (Option Value)} {oc18 kV18 dc18 pm18 cd18 ct18 : Value} {f19 : Addr} {od19 an19 : Option Addr} {sl19 : Array (Option Value)} {oc19 kV19 dc19 pm19 cd19 ct19 : Value} {f20 : Addr} {od20 an20 : Option Addr} {sl20 : Array (Option Value)} {oc20 kV20 dc20 pm20 cd20 ct20 : Value} {f21 : Addr} {od21 an21 : Option Addr} {sl21 : Array (Option Value)} {oc21 kV21 dc21 pm21 cd21 ct21 : Value} {f22 : Addr} {od22 an22 : Option Addr} {sl22 : Array (Option Value)} {oc22 kV22 dc22 pm22 cd22 ct22 : Value} {f23 : Addr} {od23 an23 : Option Addr} {sl23 : Array (Option Value)} {oc23 kV23 dc23 pm23 cd23 ct23 : Value} {f24 : Addr} {od24 an24 : Option Addr} {sl24 : Array (Option Value)} {oc24 kV24 dc24 pm24 cd24 ct24 : Value} {f25 : Addr} {od25 an25 : Option Addr} {sl25 : Array (Option Value)} {oc25 kV25 dc25 pm25 cd25 ct25 : Value} {f26 : Addr} {od26 an26 : Option Addr} {sl26 : Array (Option Value)} {oc26 kV26 dc26 pm26 cd26 ct26 : Value} {f27 : Addr} {od27 an27 : Option Addr} {sl27 : Array (Option Value)} {oc27 kV27 dc27 pm27 cd27 ct27 : Value} {T27 E27 : Addr} {nT27 nE27 : Nat} {oT27 oE27 : Option Addr} {sT27 sE27 : Array (Option Value)} {f28 : Addr} {od28 an28 : Option Addr} {sl28 : Array (Option Value)} {oc28 kV28 dc28 pm28 cd28 ct28 : Value} {f29 : Addr} {od29 an29 : Option Addr} {sl29 : Array (Option Value)} {oc29 kV29 dc29 pm29 cd29 ct29 : Value} {f30 : Addr} {od30 an30 : Option Addr} {sl30 : Array (Option Value)} {oc30 kV30 dc30 pm30 cd30 ct30 : Value} {f31 : Addr} {od31 an31 : Option Addr} {sl31 : Array (Option Value)} {oc31 kV31 dc31 pm31 cd31 ct31 : Value} {f32 : Addr} {od32 an32 : Option Addr} {sl32 : Array (Option Value)} {oc32 kV32 dc32 pm32 cd32 ct32 : Value} {f33 : Addr} {od33 an33 : Option Addr} {sl33 : Array (Option Value)} {oc33 kV33 dc33 pm33 cd33 ct33 : Value} {f34 : Addr} {od34 an34 : Option Addr} {sl34 : Array (Option Value)} {oc34 kV34 dc34 pm34 cd34 ct34 : Value} {f35 : Addr} {od35 an35 : Option Addr} {sl35 : Array (Option Value)} {oc35 kV35 dc35 pm35 cd35 ct35 : Value} {f36 : Addr} {od36 an36 : Option Addr} {sl36 : Array (Option Value)} {oc36 kV36 dc36 pm36 cd36 ct36 : Value} {f37 : Addr} {od37 an37 : Option Addr} {sl37 : Array (Option Value)} {oc37 kV37 dc37 pm37 cd37 ct37 : Value} {f38 : Addr} {od38 an38 : Option Addr} {sl38 : Array (Option Value)} {oc38 kV38 dc38 pm38 cd38 ct38 : Value} {f39 : Addr} {od39 an39 : Option Addr} {sl39 : Array (Option Value)} {oc39 kV39 dc39 pm39 cd39 ct39 : Value} {f40 : Addr} {od40 an40 : Option Addr} {sl40 : Array (Option Value)} {oc40 kV40 dc40 pm40 cd40 ct40 : Value} {f41 : Addr} {od41 an41 : Option Addr} {sl41 : Array (Option Value)} {oc41 kV41 dc41 pm41 cd41 ct41 : Value} {f42 : Addr} {od42 an42 : Option Addr} {sl42 : Array (Option Value)} {oc42 kV42 dc42 pm42 cd42 ct42 : Value} {f43 : Addr} {od43 an43 : Option Addr} {sl43 : Array (Option Value)} {oc43 kV43 dc43 pm43 cd43 ct43 : Value} {f44 : Addr} {od44 an44 : Option Addr} {sl44 : Array (Option Value)} {oc44 kV44 dc44 pm44 cd44 ct44 : Value} {x_GIVEN : Addr} {n_GIVEN : Nat} {es_GIVEN : Array DictEntry} {t_GIVEN_0 t_GIVEN_1 t_GIVEN_2 t_GIVEN_3 t_GIVEN_4 t_GIVEN_5 : Tok} {t_GREATEST : Tok} {t_LETTERS : Tok} {t_LONGEST_NAME : Tok} {t_LONGEST_RHYTHM : Tok} {t_LONGEST_ROW : Tok} {t_LONGEST_TEXT : Tok} {t_MOST_GATES : Tok} {t_MOST_INLETS : Tok} {t_MOST_KEPT : Tok} {x_TAKEN : Addr} {n_TAKEN : Nat} {es_TAKEN : Array DictEntry} {t_TAKEN_0 t_TAKEN_1 t_TAKEN_2 t_TAKEN_3 t_TAKEN_4 t_TAKEN_5 : Tok}
    (gC_Web : PySem.W.nsIn K mainGlobals "Web" = some (some (.ref C_Web)))
    (cA_Web : PySem.W.plainGet K C_Web Str.empty = true)
    (cB_Web : PySem.W.hasDictIn K C_Web = true)
    (cC_Web : PySem.W.plainOver K C_Web = true)
    (cD_Web : PySem.W.findIn K (.ref C_Web) "__setattr__" = some (some (.builtin "object.__setattr__")))
    (cE_Web : PySem.W.findIn K (.ref C_Web) "__class__" = some (some (.builtin "object.__class__")))
    (cF_Web : PySem.W.specialIn K (.builtin "object.__class__") "__get__" = some (some (.builtin "getset_descriptor.__get__")))
    (cG_Web : PySem.W.takesIn K (.builtin "object.__class__") = some true)
    (cH_Web : PySem.W.mroIn K C_Web (.type "object") = some true)
    (cI_Web : PySem.W.isClsIn K C_Web = true)
    (cJ_Web : PySem.W.typeIn K (.ref C_Web) = some (.type "type"))
    (cK_Web : PySem.W.makesIn K C_Web = true)
    (cL_Web : PySem.W.keepIn K (.ref C_Web) = true)
    (cM_Web : PySem.W.findIn K (.ref C_Web) "__ne__" = some (some (.builtin "object.__ne__")))
    (cT0_Web : PySem.W.subIn K (.type "NoneType") (.ref C_Web) = some false)
    (cT1_Web : PySem.W.subIn K (.type "bool") (.ref C_Web) = some false)
    (cT2_Web : PySem.W.subIn K (.type "int") (.ref C_Web) = some false)
    (cT3_Web : PySem.W.subIn K (.type "str") (.ref C_Web) = some false)
    (cT4_Web : PySem.W.subIn K (.type "tuple") (.ref C_Web) = some false)
    (cT5_Web : PySem.W.subIn K (.type "list") (.ref C_Web) = some false)
    (cT6_Web : PySem.W.subIn K (.type "dict") (.ref C_Web) = some false)
    (cN_Web__inlets : PySem.W.findIn K (.ref C_Web) "_inlets" = some none)
    (cN_Web__gates : PySem.W.findIn K (.ref C_Web) "_gates" = some none)
    (a0 : PySem.W.nsIn K mainGlobals "is_any_whole" = some (some (.ref f0))) (l0 : K.lookup f0 = some ⟨oc0, od0, .func (PySem.W.fnOf "is_any_whole" "is_any_whole" (defArgs s_is_any_whole) (defBody s_is_any_whole) (defScope s_is_any_whole) .none kV0 dc0 pm0 an0 cd0 ct0), sl0⟩) (c0 : PySem.W.codeIn K cd0 "is_any_whole" = true) (k0 : PySem.W.keepIn K (.ref f0) = true)
    (a1 : PySem.W.nsIn K mainGlobals "is_whole" = some (some (.ref f1))) (l1 : K.lookup f1 = some ⟨oc1, od1, .func (PySem.W.fnOf "is_whole" "is_whole" (defArgs s_is_whole) (defBody s_is_whole) (defScope s_is_whole) .none kV1 dc1 pm1 an1 cd1 ct1), sl1⟩) (c1 : PySem.W.codeIn K cd1 "is_whole" = true) (k1 : PySem.W.keepIn K (.ref f1) = true)
    (a2 : PySem.W.nsIn K mainGlobals "is_number" = some (some (.ref f2))) (l2 : K.lookup f2 = some ⟨oc2, od2, .func (PySem.W.fnOf "is_number" "is_number" (defArgs s_is_number) (defBody s_is_number) (defScope s_is_number) .none kV2 dc2 pm2 an2 cd2 ct2), sl2⟩) (c2 : PySem.W.codeIn K cd2 "is_number" = true) (k2 : PySem.W.keepIn K (.ref f2) = true)
    (a3 : PySem.W.nsIn K mainGlobals "are_numbers" = some (some (.ref f3))) (l3 : K.lookup f3 = some ⟨oc3, od3, .func (PySem.W.fnOf "are_numbers" "are_numbers" (defArgs s_are_numbers) (defBody s_are_numbers) (defScope s_are_numbers) .none kV3 dc3 pm3 an3 cd3 ct3), sl3⟩) (c3 : PySem.W.codeIn K cd3 "are_numbers" = true) (k3 : PySem.W.keepIn K (.ref f3) = true)
    (a4 : PySem.W.nsIn K mainGlobals "are_many" = some (some (.ref f4))) (l4 : K.lookup f4 = some ⟨oc4, od4, .func (PySem.W.fnOf "are_many" "are_many" (defArgs s_are_many) (defBody s_are_many) (defScope s_are_many) .none kV4 dc4 pm4 an4 cd4 ct4), sl4⟩) (c4 : PySem.W.codeIn K cd4 "are_many" = true) (k4 : PySem.W.keepIn K (.ref f4) = true)
    (a5 : PySem.W.nsIn K mainGlobals "first_wrong" = some (some (.ref f5))) (l5 : K.lookup f5 = some ⟨oc5, od5, .func (PySem.W.fnOf "first_wrong" "first_wrong" (defArgs s_first_wrong) (defBody s_first_wrong) (defScope s_first_wrong) .none kV5 dc5 pm5 an5 cd5 ct5), sl5⟩) (c5 : PySem.W.codeIn K cd5 "first_wrong" = true) (k5 : PySem.W.keepIn K (.ref f5) = true)
    (a6 : PySem.W.nsIn K mainGlobals "is_made_of" = some (some (.ref f6))) (l6 : K.lookup f6 = some ⟨oc6, od6, .func (PySem.W.fnOf "is_made_of" "is_made_of" (defArgs s_is_made_of) (defBody s_is_made_of) (defScope s_is_made_of) .none kV6 dc6 pm6 an6 cd6 ct6), sl6⟩) (c6 : PySem.W.codeIn K cd6 "is_made_of" = true) (k6 : PySem.W.keepIn K (.ref f6) = true)
    (a7 : PySem.W.nsIn K mainGlobals "is_name" = some (some (.ref f7))) (l7 : K.lookup f7 = some ⟨oc7, od7, .func (PySem.W.fnOf "is_name" "is_name" (defArgs s_is_name) (defBody s_is_name) (defScope s_is_name) .none kV7 dc7 pm7 an7 cd7 ct7), sl7⟩) (c7 : PySem.W.codeIn K cd7 "is_name" = true) (k7 : PySem.W.keepIn K (.ref f7) = true)
    (a8 : PySem.W.nsIn K mainGlobals "is_rhythm" = some (some (.ref f8))) (l8 : K.lookup f8 = some ⟨oc8, od8, .func (PySem.W.fnOf "is_rhythm" "is_rhythm" (defArgs s_is_rhythm) (defBody s_is_rhythm) (defScope s_is_rhythm) .none kV8 dc8 pm8 an8 cd8 ct8), sl8⟩) (c8 : PySem.W.codeIn K cd8 "is_rhythm" = true) (k8 : PySem.W.keepIn K (.ref f8) = true)
    (a9 : PySem.W.nsIn K mainGlobals "takes" = some (some (.ref f9))) (l9 : K.lookup f9 = some ⟨oc9, od9, .func (PySem.W.fnOf "takes" "takes" (defArgs s_takes) (defBody s_takes) (defScope s_takes) .none kV9 dc9 pm9 an9 cd9 ct9), sl9⟩) (c9 : PySem.W.codeIn K cd9 "takes" = true) (k9 : PySem.W.keepIn K (.ref f9) = true)
    (a10 : PySem.W.nsIn K mainGlobals "times_of" = some (some (.ref f10))) (l10 : K.lookup f10 = some ⟨oc10, od10, .func (PySem.W.fnOf "times_of" "times_of" (defArgs s_times_of) (defBody s_times_of) (defScope s_times_of) .none kV10 dc10 pm10 an10 cd10 ct10), sl10⟩) (c10 : PySem.W.codeIn K cd10 "times_of" = true) (k10 : PySem.W.keepIn K (.ref f10) = true)
    (a11 : PySem.W.nsIn K mainGlobals "inputs" = some (some (.ref f11))) (l11 : K.lookup f11 = some ⟨oc11, od11, .func (PySem.W.fnOf "inputs" "inputs" (defArgs s_inputs) (defBody s_inputs) (defScope s_inputs) .none kV11 dc11 pm11 an11 cd11 ct11), sl11⟩) (c11 : PySem.W.codeIn K cd11 "inputs" = true) (k11 : PySem.W.keepIn K (.ref f11) = true)
    (a12 : PySem.W.nsIn K mainGlobals "cut" = some (some (.ref f12))) (l12 : K.lookup f12 = some ⟨oc12, od12, .func (PySem.W.fnOf "cut" "cut" (defArgs s_cut) (defBody s_cut) (defScope s_cut) .none kV12 dc12 pm12 an12 cd12 ct12), sl12⟩) (c12 : PySem.W.codeIn K cd12 "cut" = true) (k12 : PySem.W.keepIn K (.ref f12) = true)
    (a13 : PySem.W.nsIn K mainGlobals "is_endless" = some (some (.ref f13))) (l13 : K.lookup f13 = some ⟨oc13, od13, .func (PySem.W.fnOf "is_endless" "is_endless" (defArgs s_is_endless) (defBody s_is_endless) (defScope s_is_endless) .none kV13 dc13 pm13 an13 cd13 ct13), sl13⟩) (c13 : PySem.W.codeIn K cd13 "is_endless" = true) (k13 : PySem.W.keepIn K (.ref f13) = true)
    (a14 : PySem.W.nsIn K mainGlobals "takers" = some (some (.ref f14))) (l14 : K.lookup f14 = some ⟨oc14, od14, .func (PySem.W.fnOf "takers" "takers" (defArgs s_takers) (defBody s_takers) (defScope s_takers) .none kV14 dc14 pm14 an14 cd14 ct14), sl14⟩) (c14 : PySem.W.codeIn K cd14 "takers" = true) (k14 : PySem.W.keepIn K (.ref f14) = true)
    (a15 : PySem.W.nsIn K mainGlobals "times_by" = some (some (.ref f15))) (l15 : K.lookup f15 = some ⟨oc15, od15, .func (PySem.W.fnOf "times_by" "times_by" (defArgs s_times_by) (defBody s_times_by) (defScope s_times_by) .none kV15 dc15 pm15 an15 cd15 ct15), sl15⟩) (c15 : PySem.W.codeIn K cd15 "times_by" = true) (k15 : PySem.W.keepIn K (.ref f15) = true)
    (a16 : PySem.W.nsIn K mainGlobals "check_feed" = some (some (.ref f16))) (l16 : K.lookup f16 = some ⟨oc16, od16, .func (PySem.W.fnOf "check_feed" "check_feed" (defArgs s_check_feed) (defBody s_check_feed) (defScope s_check_feed) .none kV16 dc16 pm16 an16 cd16 ct16), sl16⟩) (c16 : PySem.W.codeIn K cd16 "check_feed" = true) (k16 : PySem.W.keepIn K (.ref f16) = true)
    (a17 : PySem.W.nsIn K mainGlobals "_is_row" = some (some (.ref f17))) (l17 : K.lookup f17 = some ⟨oc17, od17, .func (PySem.W.fnOf "_is_row" "_is_row" (defArgs s__is_row) (defBody s__is_row) (defScope s__is_row) .none kV17 dc17 pm17 an17 cd17 ct17), sl17⟩) (c17 : PySem.W.codeIn K cd17 "_is_row" = true) (k17 : PySem.W.keepIn K (.ref f17) = true)
    (a18 : PySem.W.nsIn K mainGlobals "_wrong_row" = some (some (.ref f18))) (l18 : K.lookup f18 = some ⟨oc18, od18, .func (PySem.W.fnOf "_wrong_row" "_wrong_row" (defArgs s__wrong_row) (defBody s__wrong_row) (defScope s__wrong_row) .none kV18 dc18 pm18 an18 cd18 ct18), sl18⟩) (c18 : PySem.W.codeIn K cd18 "_wrong_row" = true) (k18 : PySem.W.keepIn K (.ref f18) = true)
    (a19 : PySem.W.nsIn K mainGlobals "taken_by" = some (some (.ref f19))) (l19 : K.lookup f19 = some ⟨oc19, od19, .func (PySem.W.fnOf "taken_by" "taken_by" (defArgs s_taken_by) (defBody s_taken_by) (defScope s_taken_by) .none kV19 dc19 pm19 an19 cd19 ct19), sl19⟩) (c19 : PySem.W.codeIn K cd19 "taken_by" = true) (k19 : PySem.W.keepIn K (.ref f19) = true)
    (a20 : PySem.W.nsIn K mainGlobals "given_by" = some (some (.ref f20))) (l20 : K.lookup f20 = some ⟨oc20, od20, .func (PySem.W.fnOf "given_by" "given_by" (defArgs s_given_by) (defBody s_given_by) (defScope s_given_by) .none kV20 dc20 pm20 an20 cd20 ct20), sl20⟩) (c20 : PySem.W.codeIn K cd20 "given_by" = true) (k20 : PySem.W.keepIn K (.ref f20) = true)
    (a21 : PySem.W.nsIn K mainGlobals "told_of" = some (some (.ref f21))) (l21 : K.lookup f21 = some ⟨oc21, od21, .func (PySem.W.fnOf "told_of" "told_of" (defArgs s_told_of) (defBody s_told_of) (defScope s_told_of) .none kV21 dc21 pm21 an21 cd21 ct21), sl21⟩) (c21 : PySem.W.codeIn K cd21 "told_of" = true) (k21 : PySem.W.keepIn K (.ref f21) = true)
    (a22 : PySem.W.nsIn K mainGlobals "size_of" = some (some (.ref f22))) (l22 : K.lookup f22 = some ⟨oc22, od22, .func (PySem.W.fnOf "size_of" "size_of" (defArgs s_size_of) (defBody s_size_of) (defScope s_size_of) .none kV22 dc22 pm22 an22 cd22 ct22), sl22⟩) (c22 : PySem.W.codeIn K cd22 "size_of" = true) (k22 : PySem.W.keepIn K (.ref f22) = true)
    (a23 : PySem.W.nsIn K mainGlobals "is_gate" = some (some (.ref f23))) (l23 : K.lookup f23 = some ⟨oc23, od23, .func (PySem.W.fnOf "is_gate" "is_gate" (defArgs s_is_gate) (defBody s_is_gate) (defScope s_is_gate) .none kV23 dc23 pm23 an23 cd23 ct23), sl23⟩) (c23 : PySem.W.codeIn K cd23 "is_gate" = true) (k23 : PySem.W.keepIn K (.ref f23) = true)
    (a24 : PySem.W.nsIn K mainGlobals "_has_lanes" = some (some (.ref f24))) (l24 : K.lookup f24 = some ⟨oc24, od24, .func (PySem.W.fnOf "_has_lanes" "_has_lanes" (defArgs s__has_lanes) (defBody s__has_lanes) (defScope s__has_lanes) .none kV24 dc24 pm24 an24 cd24 ct24), sl24⟩) (c24 : PySem.W.codeIn K cd24 "_has_lanes" = true) (k24 : PySem.W.keepIn K (.ref f24) = true)
    (a25 : PySem.W.nsIn K mainGlobals "_is_told" = some (some (.ref f25))) (l25 : K.lookup f25 = some ⟨oc25, od25, .func (PySem.W.fnOf "_is_told" "_is_told" (defArgs s__is_told) (defBody s__is_told) (defScope s__is_told) .none kV25 dc25 pm25 an25 cd25 ct25), sl25⟩) (c25 : PySem.W.codeIn K cd25 "_is_told" = true) (k25 : PySem.W.keepIn K (.ref f25) = true)
    (a26 : PySem.W.nsIn K mainGlobals "left" = some (some (.ref f26))) (l26 : K.lookup f26 = some ⟨oc26, od26, .func (PySem.W.fnOf "left" "left" (defArgs s_left) (defBody s_left) (defScope s_left) .none kV26 dc26 pm26 an26 cd26 ct26), sl26⟩) (c26 : PySem.W.codeIn K cd26 "left" = true) (k26 : PySem.W.keepIn K (.ref f26) = true)
    (a27 : PySem.W.findIn K (.ref C_Web) "__init__" = some (some (.ref f27))) (l27 : K.lookup f27 = some ⟨oc27, od27, .func (PySem.W.fnOf "__init__" "Web.__init__" (defArgs s_Web___init__) (defBody s_Web___init__) (defScope s_Web___init__) (.ref T27) kV27 dc27 pm27 an27 cd27 ct27), sl27⟩) (c27 : PySem.W.codeIn K cd27 "Web.__init__" = true) (k27 : PySem.W.keepIn K (.ref f27) = true)
    (i27 : PySem.W.isFn K (.ref f27) = true)
    (lT27 : K.lookup T27 = some ⟨.type "tuple", oT27, .seq #[.ref E27] nT27, sT27⟩) (lE27 : K.lookup E27 = some ⟨.type "tuple", oE27, .seq #[] nE27, sE27⟩)
    (a28 : PySem.W.findIn K (.ref C_Web) "inlets" = some (some (.ref f28))) (l28 : K.lookup f28 = some ⟨oc28, od28, .func (PySem.W.fnOf "inlets" "Web.inlets" (defArgs s_Web_inlets) (defBody s_Web_inlets) (defScope s_Web_inlets) .none kV28 dc28 pm28 an28 cd28 ct28), sl28⟩) (c28 : PySem.W.codeIn K cd28 "Web.inlets" = true) (k28 : PySem.W.keepIn K (.ref f28) = true)
    (i28 : PySem.W.isFn K (.ref f28) = true)
    (a29 : PySem.W.nsIn K mainGlobals "is_inlet" = some (some (.ref f29))) (l29 : K.lookup f29 = some ⟨oc29, od29, .func (PySem.W.fnOf "is_inlet" "is_inlet" (defArgs s_is_inlet) (defBody s_is_inlet) (defScope s_is_inlet) .none kV29 dc29 pm29 an29 cd29 ct29), sl29⟩) (c29 : PySem.W.codeIn K cd29 "is_inlet" = true) (k29 : PySem.W.keepIn K (.ref f29) = true)
    (a30 : PySem.W.nsIn K mainGlobals "_check_inlets" = some (some (.ref f30))) (l30 : K.lookup f30 = some ⟨oc30, od30, .func (PySem.W.fnOf "_check_inlets" "_check_inlets" (defArgs s__check_inlets) (defBody s__check_inlets) (defScope s__check_inlets) .none kV30 dc30 pm30 an30 cd30 ct30), sl30⟩) (c30 : PySem.W.codeIn K cd30 "_check_inlets" = true) (k30 : PySem.W.keepIn K (.ref f30) = true)
    (a31 : PySem.W.nsIn K mainGlobals "_check_gates" = some (some (.ref f31))) (l31 : K.lookup f31 = some ⟨oc31, od31, .func (PySem.W.fnOf "_check_gates" "_check_gates" (defArgs s__check_gates) (defBody s__check_gates) (defScope s__check_gates) .none kV31 dc31 pm31 an31 cd31 ct31), sl31⟩) (c31 : PySem.W.codeIn K cd31 "_check_gates" = true) (k31 : PySem.W.keepIn K (.ref f31) = true)
    (a32 : PySem.W.nsIn K mainGlobals "_can_stand" = some (some (.ref f32))) (l32 : K.lookup f32 = some ⟨oc32, od32, .func (PySem.W.fnOf "_can_stand" "_can_stand" (defArgs s__can_stand) (defBody s__can_stand) (defScope s__can_stand) .none kV32 dc32 pm32 an32 cd32 ct32), sl32⟩) (c32 : PySem.W.codeIn K cd32 "_can_stand" = true) (k32 : PySem.W.keepIn K (.ref f32) = true)
    (a33 : PySem.W.nsIn K mainGlobals "_law_pen" = some (some (.ref f33))) (l33 : K.lookup f33 = some ⟨oc33, od33, .func (PySem.W.fnOf "_law_pen" "_law_pen" (defArgs s__law_pen) (defBody s__law_pen) (defScope s__law_pen) .none kV33 dc33 pm33 an33 cd33 ct33), sl33⟩) (c33 : PySem.W.codeIn K cd33 "_law_pen" = true) (k33 : PySem.W.keepIn K (.ref f33) = true)
    (a34 : PySem.W.nsIn K mainGlobals "_law_draw" = some (some (.ref f34))) (l34 : K.lookup f34 = some ⟨oc34, od34, .func (PySem.W.fnOf "_law_draw" "_law_draw" (defArgs s__law_draw) (defBody s__law_draw) (defScope s__law_draw) .none kV34 dc34 pm34 an34 cd34 ct34), sl34⟩) (c34 : PySem.W.codeIn K cd34 "_law_draw" = true) (k34 : PySem.W.keepIn K (.ref f34) = true)
    (a35 : PySem.W.nsIn K mainGlobals "_law_pick" = some (some (.ref f35))) (l35 : K.lookup f35 = some ⟨oc35, od35, .func (PySem.W.fnOf "_law_pick" "_law_pick" (defArgs s__law_pick) (defBody s__law_pick) (defScope s__law_pick) .none kV35 dc35 pm35 an35 cd35 ct35), sl35⟩) (c35 : PySem.W.codeIn K cd35 "_law_pick" = true) (k35 : PySem.W.keepIn K (.ref f35) = true)
    (a36 : PySem.W.nsIn K mainGlobals "_law_names" = some (some (.ref f36))) (l36 : K.lookup f36 = some ⟨oc36, od36, .func (PySem.W.fnOf "_law_names" "_law_names" (defArgs s__law_names) (defBody s__law_names) (defScope s__law_names) .none kV36 dc36 pm36 an36 cd36 ct36), sl36⟩) (c36 : PySem.W.codeIn K cd36 "_law_names" = true) (k36 : PySem.W.keepIn K (.ref f36) = true)
    (a37 : PySem.W.nsIn K mainGlobals "_law_rhythm" = some (some (.ref f37))) (l37 : K.lookup f37 = some ⟨oc37, od37, .func (PySem.W.fnOf "_law_rhythm" "_law_rhythm" (defArgs s__law_rhythm) (defBody s__law_rhythm) (defScope s__law_rhythm) .none kV37 dc37 pm37 an37 cd37 ct37), sl37⟩) (c37 : PySem.W.codeIn K cd37 "_law_rhythm" = true) (k37 : PySem.W.keepIn K (.ref f37) = true)
    (a38 : PySem.W.nsIn K mainGlobals "_law_given" = some (some (.ref f38))) (l38 : K.lookup f38 = some ⟨oc38, od38, .func (PySem.W.fnOf "_law_given" "_law_given" (defArgs s__law_given) (defBody s__law_given) (defScope s__law_given) .none kV38 dc38 pm38 an38 cd38 ct38), sl38⟩) (c38 : PySem.W.codeIn K cd38 "_law_given" = true) (k38 : PySem.W.keepIn K (.ref f38) = true)
    (a39 : PySem.W.nsIn K mainGlobals "_law_room" = some (some (.ref f39))) (l39 : K.lookup f39 = some ⟨oc39, od39, .func (PySem.W.fnOf "_law_room" "_law_room" (defArgs s__law_room) (defBody s__law_room) (defScope s__law_room) .none kV39 dc39 pm39 an39 cd39 ct39), sl39⟩) (c39 : PySem.W.codeIn K cd39 "_law_room" = true) (k39 : PySem.W.keepIn K (.ref f39) = true)
    (a40 : PySem.W.nsIn K mainGlobals "_law_gate" = some (some (.ref f40))) (l40 : K.lookup f40 = some ⟨oc40, od40, .func (PySem.W.fnOf "_law_gate" "_law_gate" (defArgs s__law_gate) (defBody s__law_gate) (defScope s__law_gate) .none kV40 dc40 pm40 an40 cd40 ct40), sl40⟩) (c40 : PySem.W.codeIn K cd40 "_law_gate" = true) (k40 : PySem.W.keepIn K (.ref f40) = true)
    (a41 : PySem.W.nsIn K mainGlobals "_law_web" = some (some (.ref f41))) (l41 : K.lookup f41 = some ⟨oc41, od41, .func (PySem.W.fnOf "_law_web" "_law_web" (defArgs s__law_web) (defBody s__law_web) (defScope s__law_web) .none kV41 dc41 pm41 an41 cd41 ct41), sl41⟩) (c41 : PySem.W.codeIn K cd41 "_law_web" = true) (k41 : PySem.W.keepIn K (.ref f41) = true)
    (a42 : PySem.W.nsIn K mainGlobals "_law_feed" = some (some (.ref f42))) (l42 : K.lookup f42 = some ⟨oc42, od42, .func (PySem.W.fnOf "_law_feed" "_law_feed" (defArgs s__law_feed) (defBody s__law_feed) (defScope s__law_feed) .none kV42 dc42 pm42 an42 cd42 ct42), sl42⟩) (c42 : PySem.W.codeIn K cd42 "_law_feed" = true) (k42 : PySem.W.keepIn K (.ref f42) = true)
    (a43 : PySem.W.nsIn K mainGlobals "_law_inputs" = some (some (.ref f43))) (l43 : K.lookup f43 = some ⟨oc43, od43, .func (PySem.W.fnOf "_law_inputs" "_law_inputs" (defArgs s__law_inputs) (defBody s__law_inputs) (defScope s__law_inputs) .none kV43 dc43 pm43 an43 cd43 ct43), sl43⟩) (c43 : PySem.W.codeIn K cd43 "_law_inputs" = true) (k43 : PySem.W.keepIn K (.ref f43) = true)
    (a44 : PySem.W.nsIn K mainGlobals "law" = some (some (.ref f44))) (l44 : K.lookup f44 = some ⟨oc44, od44, .func (PySem.W.fnOf "law" "law" (defArgs s_law) (defBody s_law) (defScope s_law) .none kV44 dc44 pm44 an44 cd44 ct44), sl44⟩) (c44 : PySem.W.codeIn K cd44 "law" = true) (k44 : PySem.W.keepIn K (.ref f44) = true)
    (z_abs : PySem.W.nsIn K mainGlobals "abs" = some none)
    (z_all : PySem.W.nsIn K mainGlobals "all" = some none)
    (z_any : PySem.W.nsIn K mainGlobals "any" = some none)
    (z_bool : PySem.W.nsIn K mainGlobals "bool" = some none)
    (z_divmod : PySem.W.nsIn K mainGlobals "divmod" = some none)
    (z_enumerate : PySem.W.nsIn K mainGlobals "enumerate" = some none)
    (z_int : PySem.W.nsIn K mainGlobals "int" = some none)
    (z_isinstance : PySem.W.nsIn K mainGlobals "isinstance" = some none)
    (z_len : PySem.W.nsIn K mainGlobals "len" = some none)
    (z_list : PySem.W.nsIn K mainGlobals "list" = some none)
    (z_max : PySem.W.nsIn K mainGlobals "max" = some none)
    (z_min : PySem.W.nsIn K mainGlobals "min" = some none)
    (z_range : PySem.W.nsIn K mainGlobals "range" = some none)
    (z_repr : PySem.W.nsIn K mainGlobals "repr" = some none)
    (z_set : PySem.W.nsIn K mainGlobals "set" = some none)
    (z_str : PySem.W.nsIn K mainGlobals "str" = some none)
    (z_tuple : PySem.W.nsIn K mainGlobals "tuple" = some none)
    (z_zip : PySem.W.nsIn K mainGlobals "zip" = some none)
    (g_GIVEN : PySem.W.nsIn K mainGlobals "GIVEN" = some (some (.ref x_GIVEN))) (l_GIVEN : K.lookup x_GIVEN = some ⟨.type "dict", none, .dict es_GIVEN n_GIVEN, #[]⟩)
    (v_GIVEN_0 : PySem.W.nsIn K x_GIVEN "hold" = some (some (.int 1 t_GIVEN_0)))
    (v_GIVEN_1 : PySem.W.nsIn K x_GIVEN "wait" = some (some (.int 1 t_GIVEN_1)))
    (v_GIVEN_2 : PySem.W.nsIn K x_GIVEN "lag" = some (some (.int 1 t_GIVEN_2)))
    (v_GIVEN_3 : PySem.W.nsIn K x_GIVEN "deal" = some (some (.int 2 t_GIVEN_3)))
    (v_GIVEN_4 : PySem.W.nsIn K x_GIVEN "join" = some (some (.int 1 t_GIVEN_4)))
    (v_GIVEN_5 : PySem.W.nsIn K x_GIVEN "cross" = some (some (.int 2 t_GIVEN_5)))
    (y_GIVEN : PySem.W.KeysLit w.params es_GIVEN.toList) (s_GIVEN : (x_GIVEN == sysModules) = false)
    (g_GREATEST : PySem.W.nsIn K mainGlobals "GREATEST" = some (some (.int 1000000000000 t_GREATEST)))
    (g_LETTERS : PySem.W.nsIn K mainGlobals "LETTERS" = some (some (.str "abcdefghijklmnopqrstuvwxyz" t_LETTERS)))
    (g_LONGEST_NAME : PySem.W.nsIn K mainGlobals "LONGEST_NAME" = some (some (.int 8 t_LONGEST_NAME)))
    (g_LONGEST_RHYTHM : PySem.W.nsIn K mainGlobals "LONGEST_RHYTHM" = some (some (.int 6 t_LONGEST_RHYTHM)))
    (g_LONGEST_ROW : PySem.W.nsIn K mainGlobals "LONGEST_ROW" = some (some (.int 2000 t_LONGEST_ROW)))
    (g_LONGEST_TEXT : PySem.W.nsIn K mainGlobals "LONGEST_TEXT" = some (some (.int 6 t_LONGEST_TEXT)))
    (g_MOST_GATES : PySem.W.nsIn K mainGlobals "MOST_GATES" = some (some (.int 10 t_MOST_GATES)))
    (g_MOST_INLETS : PySem.W.nsIn K mainGlobals "MOST_INLETS" = some (some (.int 3 t_MOST_INLETS)))
    (g_MOST_KEPT : PySem.W.nsIn K mainGlobals "MOST_KEPT" = some (some (.int 12 t_MOST_KEPT)))
    (g_TAKEN : PySem.W.nsIn K mainGlobals "TAKEN" = some (some (.ref x_TAKEN))) (l_TAKEN : K.lookup x_TAKEN = some ⟨.type "dict", none, .dict es_TAKEN n_TAKEN, #[]⟩)
    (v_TAKEN_0 : PySem.W.nsIn K x_TAKEN "hold" = some (some (.int 1 t_TAKEN_0)))
    (v_TAKEN_1 : PySem.W.nsIn K x_TAKEN "wait" = some (some (.int 1 t_TAKEN_1)))
    (v_TAKEN_2 : PySem.W.nsIn K x_TAKEN "lag" = some (some (.int 1 t_TAKEN_2)))
    (v_TAKEN_3 : PySem.W.nsIn K x_TAKEN "deal" = some (some (.int 1 t_TAKEN_3)))
    (v_TAKEN_4 : PySem.W.nsIn K x_TAKEN "join" = some (some (.int 2 t_TAKEN_4)))
    (v_TAKEN_5 : PySem.W.nsIn K x_TAKEN "cross" = some (some (.int 2 t_TAKEN_5)))
    (y_TAKEN : PySem.W.KeysLit w.params es_TAKEN.toList) (s_TAKEN : (x_TAKEN == sysModules) = false) :
    ∃ fd : FuncData, (∀ (s : Shared) (v : Value), BindsTo s fd ⟨[v], []⟩ [("_law_script", v)]) ∧ ∀ base : Heap, K.In base → base.Ns mainGlobals mg → FnG l.prog w K mg base CX0 11 fa fd ["_law_script"] (rSp K sp_law) := by
  have e := hfa.symm.trans (PySem.W.mg_of X G a44)
  cases e
  have F27 : FunD K "__init__" "Web.__init__" (defArgs s_Web___init__) (defBody s_Web___init__) (defScope s_Web___init__) [.ref E27] [] f27 (PySem.W.fnOf "__init__" "Web.__init__" (defArgs s_Web___init__) (defBody s_Web___init__) (defScope s_Web___init__) (.ref T27) kV27 dc27 pm27 an27 cd27 ct27) := ⟨⟨_, _, _, _, _, _, _, _, _, _, rfl, l27, c27, .inr ⟨by simp, T27, _, [.ref E27], nT27, rfl, lT27, rfl, .cons rfl .nil⟩, .inl rfl⟩, k27⟩
  obtain ⟨us27, v27, B27⟩ := F27.binds1 (ps := ["self", "inlets", "gates"]) 2 0 (by simp) rfl (fun _ _ _ _ _ _ _ us its h1 h2 => (match us, h1, its, h2 with | [_, _], _, [_], _ => ⟨_, rfl, rfl⟩))
  have A27 : Binds K (PySem.W.fnOf "__init__" "Web.__init__" (defArgs s_Web___init__) (defBody s_Web___init__) (defScope s_Web___init__) (.ref T27) kV27 dc27 pm27 an27 cd27 ct27) ["self", "inlets", "gates"] [] := by
    obtain ⟨us, v, B⟩ := F27.binds1 (ps := ["self", "inlets", "gates"]) 3 1 (by simp) rfl (fun _ _ _ _ _ _ _ us its h1 h2 => (match us, h1, its, h2 with | [_, _, _], _, [_], _ => ⟨_, rfl, rfl⟩))
    cases v
    exact B
  let T : Tx w K mg := {
    C_Web := C_Web, g_Web := PySem.W.mg_of X G gC_Web, c_Web := ⟨cA_Web, cB_Web, cC_Web, cD_Web⟩, t_Web := ⟨⟨cA_Web, cB_Web, cC_Web, cD_Web⟩, cE_Web, cF_Web, cG_Web, cH_Web⟩,
    no_Web := no_of cI_Web cJ_Web cT0_Web cT1_Web cT2_Web cT3_Web cT4_Web cT5_Web cT6_Web,
    na_Web__inlets := cN_Web__inlets,
    na_Web__gates := cN_Web__gates,
    f_is_any_whole := f0, e_is_any_whole := _, d_is_any_whole := ⟨fun_mk (st := s_is_any_whole) l0 c0 k0, PySem.W.mg_of X G a0, (fun_mk (st := s_is_any_whole) l0 c0 k0).binds (ps := ["thing"]) (fun _ _ _ _ _ _ us hl => (match us, hl with | [_], _ => rfl))⟩,
    f_is_whole := f1, e_is_whole := _, d_is_whole := ⟨fun_mk (st := s_is_whole) l1 c1 k1, PySem.W.mg_of X G a1, (fun_mk (st := s_is_whole) l1 c1 k1).binds (ps := ["thing", "least", "most"]) (fun _ _ _ _ _ _ us hl => (match us, hl with | [_, _, _], _ => rfl))⟩,
    f_is_number := f2, e_is_number := _, d_is_number := ⟨fun_mk (st := s_is_number) l2 c2 k2, PySem.W.mg_of X G a2, (fun_mk (st := s_is_number) l2 c2 k2).binds (ps := ["thing"]) (fun _ _ _ _ _ _ us hl => (match us, hl with | [_], _ => rfl))⟩,
    f_are_numbers := f3, e_are_numbers := _, d_are_numbers := ⟨fun_mk (st := s_are_numbers) l3 c3 k3, PySem.W.mg_of X G a3, (fun_mk (st := s_are_numbers) l3 c3 k3).binds (ps := ["thing", "least", "most"]) (fun _ _ _ _ _ _ us hl => (match us, hl with | [_, _, _], _ => rfl))⟩,
    f_are_many := f4, e_are_many := _, d_are_many := ⟨fun_mk (st := s_are_many) l4 c4 k4, PySem.W.mg_of X G a4, (fun_mk (st := s_are_many) l4 c4 k4).binds (ps := ["thing", "least", "most"]) (fun _ _ _ _ _ _ us hl => (match us, hl with | [_, _, _], _ => rfl))⟩,
    f_first_wrong := f5, e_first_wrong := _, d_first_wrong := ⟨fun_mk (st := s_first_wrong) l5 c5 k5, PySem.W.mg_of X G a5, (fun_mk (st := s_first_wrong) l5 c5 k5).binds (ps := ["thing", "least", "most", "is_part"]) (fun _ _ _ _ _ _ us hl => (match us, hl with | [_, _, _, _], _ => rfl))⟩,
    f_is_made_of := f6, e_is_made_of := _, d_is_made_of := ⟨fun_mk (st := s_is_made_of) l6 c6 k6, PySem.W.mg_of X G a6, (fun_mk (st := s_is_made_of) l6 c6 k6).binds (ps := ["thing", "signs", "most"]) (fun _ _ _ _ _ _ us hl => (match us, hl with | [_, _, _], _ => rfl))⟩,
    f_is_name := f7, e_is_name := _, d_is_name := ⟨fun_mk (st := s_is_name) l7 c7 k7, PySem.W.mg_of X G a7, (fun_mk (st := s_is_name) l7 c7 k7).binds (ps := ["thing"]) (fun _ _ _ _ _ _ us hl => (match us, hl with | [_], _ => rfl))⟩,
    f_is_rhythm := f8, e_is_rhythm := _, d_is_rhythm := ⟨fun_mk (st := s_is_rhythm) l8 c8 k8, PySem.W.mg_of X G a8, (fun_mk (st := s_is_rhythm) l8 c8 k8).binds (ps := ["thing"]) (fun _ _ _ _ _ _ us hl => (match us, hl with | [_], _ => rfl))⟩,
    f_takes := f9, e_takes := _, d_takes := ⟨fun_mk (st := s_takes) l9 c9 k9, PySem.W.mg_of X G a9, (fun_mk (st := s_takes) l9 c9 k9).binds (ps := ["rhythm", "beat"]) (fun _ _ _ _ _ _ us hl => (match us, hl with | [_, _], _ => rfl))⟩,
    f_times_of := f10, e_times_of := _, d_times_of := ⟨fun_mk (st := s_times_of) l10 c10 k10, PySem.W.mg_of X G a10, (fun_mk (st := s_times_of) l10 c10 k10).binds (ps := ["rhythm", "beat"]) (fun _ _ _ _ _ _ us hl => (match us, hl with | [_, _], _ => rfl))⟩,
    f_inputs := f11, e_inputs := _, d_inputs := ⟨fun_mk (st := s_inputs) l11 c11 k11, PySem.W.mg_of X G a11, (fun_mk (st := s_inputs) l11 c11 k11).binds (ps := ["web", "beat"]) (fun _ _ _ _ _ _ us hl => (match us, hl with | [_, _], _ => rfl))⟩,
    f_cut := f12, e_cut := _, d_cut := ⟨fun_mk (st := s_cut) l12 c12 k12, PySem.W.mg_of X G a12, (fun_mk (st := s_cut) l12 c12 k12).binds (ps := ["web", "feed", "beat"]) (fun _ _ _ _ _ _ us hl => (match us, hl with | [_, _, _], _ => rfl))⟩,
    f_is_endless := f13, e_is_endless := _, d_is_endless := ⟨fun_mk (st := s_is_endless) l13 c13 k13, PySem.W.mg_of X G a13, (fun_mk (st := s_is_endless) l13 c13 k13).binds (ps := ["web", "feed", "beat"]) (fun _ _ _ _ _ _ us hl => (match us, hl with | [_, _, _], _ => rfl))⟩,
    f_takers := f14, e_takers := _, d_takers := ⟨fun_mk (st := s_takers) l14 c14 k14, PySem.W.mg_of X G a14, (fun_mk (st := s_takers) l14 c14 k14).binds (ps := ["web", "beat"]) (fun _ _ _ _ _ _ us hl => (match us, hl with | [_, _], _ => rfl))⟩,
    f_times_by := f15, e_times_by := _, d_times_by := ⟨fun_mk (st := s_times_by) l15 c15 k15, PySem.W.mg_of X G a15, (fun_mk (st := s_times_by) l15 c15 k15).binds (ps := ["web", "beat"]) (fun _ _ _ _ _ _ us hl => (match us, hl with | [_, _], _ => rfl))⟩,
    f_check_feed := f16, e_check_feed := _, d_check_feed := ⟨fun_mk (st := s_check_feed) l16 c16 k16, PySem.W.mg_of X G a16, (fun_mk (st := s_check_feed) l16 c16 k16).binds (ps := ["web", "thing"]) (fun _ _ _ _ _ _ us hl => (match us, hl with | [_, _], _ => rfl))⟩,
    f__is_row := f17, e__is_row := _, d__is_row := ⟨fun_mk (st := s__is_row) l17 c17 k17, PySem.W.mg_of X G a17, (fun_mk (st := s__is_row) l17 c17 k17).binds (ps := ["thing"]) (fun _ _ _ _ _ _ us hl => (match us, hl with | [_], _ => rfl))⟩,
    f__wrong_row := f18, e__wrong_row := _, d__wrong_row := ⟨fun_mk (st := s__wrong_row) l18 c18 k18, PySem.W.mg_of X G a18, (fun_mk (st := s__wrong_row) l18 c18 k18).binds (ps := ["web", "thing"]) (fun _ _ _ _ _ _ us hl => (match us, hl with | [_, _], _ => rfl))⟩,
    f_taken_by := f19, e_taken_by := _, d_taken_by := ⟨fun_mk (st := s_taken_by) l19 c19 k19, PySem.W.mg_of X G a19, (fun_mk (st := s_taken_by) l19 c19 k19).binds (ps := ["gate"]) (fun _ _ _ _ _ _ us hl => (match us, hl with | [_], _ => rfl))⟩,
    f_given_by := f20, e_given_by := _, d_given_by := ⟨fun_mk (st := s_given_by) l20 c20 k20, PySem.W.mg_of X G a20, (fun_mk (st := s_given_by) l20 c20 k20).binds (ps := ["gate"]) (fun _ _ _ _ _ _ us hl => (match us, hl with | [_], _ => rfl))⟩,
    f_told_of := f21, e_told_of := _, d_told_of := ⟨fun_mk (st := s_told_of) l21 c21 k21, PySem.W.mg_of X G a21, (fun_mk (st := s_told_of) l21 c21 k21).binds (ps := ["gate"]) (fun _ _ _ _ _ _ us hl => (match us, hl with | [_], _ => rfl))⟩,
    f_size_of := f22, e_size_of := _, d_size_of := ⟨fun_mk (st := s_size_of) l22 c22 k22, PySem.W.mg_of X G a22, (fun_mk (st := s_size_of) l22 c22 k22).binds (ps := ["gate"]) (fun _ _ _ _ _ _ us hl => (match us, hl with | [_], _ => rfl))⟩,
    f_is_gate := f23, e_is_gate := _, d_is_gate := ⟨fun_mk (st := s_is_gate) l23 c23 k23, PySem.W.mg_of X G a23, (fun_mk (st := s_is_gate) l23 c23 k23).binds (ps := ["thing"]) (fun _ _ _ _ _ _ us hl => (match us, hl with | [_], _ => rfl))⟩,
    f__has_lanes := f24, e__has_lanes := _, d__has_lanes := ⟨fun_mk (st := s__has_lanes) l24 c24 k24, PySem.W.mg_of X G a24, (fun_mk (st := s__has_lanes) l24 c24 k24).binds (ps := ["thing"]) (fun _ _ _ _ _ _ us hl => (match us, hl with | [_], _ => rfl))⟩,
    f__is_told := f25, e__is_told := _, d__is_told := ⟨fun_mk (st := s__is_told) l25 c25 k25, PySem.W.mg_of X G a25, (fun_mk (st := s__is_told) l25 c25 k25).binds (ps := ["word", "told"]) (fun _ _ _ _ _ _ us hl => (match us, hl with | [_, _], _ => rfl))⟩,
    f_left := f26, e_left := _, d_left := ⟨fun_mk (st := s_left) l26 c26 k26, PySem.W.mg_of X G a26, (fun_mk (st := s_left) l26 c26 k26).binds (ps := ["web", "feed", "beat"]) (fun _ _ _ _ _ _ us hl => (match us, hl with | [_, _, _], _ => rfl))⟩,
    f_Web___init__ := f27, e_Web___init__ := _, dv_Web___init__ := [.ref E27], us_Web___init__ := us27, d_Web___init__ := ⟨F27, A27, B27, v27, fun F => .cons (.tup (.inr ⟨_, _, _, lE27, rfl, rfl, by decide, .nil⟩) .nil) .nil⟩,
    mk_Web := ⟨cK_Web, a27, i27, cL_Web⟩,
    f_Web_inlets := f28, e_Web_inlets := _, d_Web_inlets := ⟨fun_mk (st := s_Web_inlets) l28 c28 k28, ⟨a28, i28, k28⟩, (fun_mk (st := s_Web_inlets) l28 c28 k28).binds (ps := ["self"]) (fun _ _ _ _ _ _ us hl => (match us, hl with | [_], _ => rfl))⟩,
    f_is_inlet := f29, e_is_inlet := _, d_is_inlet := ⟨fun_mk (st := s_is_inlet) l29 c29 k29, PySem.W.mg_of X G a29, (fun_mk (st := s_is_inlet) l29 c29 k29).binds (ps := ["thing"]) (fun _ _ _ _ _ _ us hl => (match us, hl with | [_], _ => rfl))⟩,
    f__check_inlets := f30, e__check_inlets := _, d__check_inlets := ⟨fun_mk (st := s__check_inlets) l30 c30 k30, PySem.W.mg_of X G a30, (fun_mk (st := s__check_inlets) l30 c30 k30).binds (ps := ["inlets"]) (fun _ _ _ _ _ _ us hl => (match us, hl with | [_], _ => rfl))⟩,
    f__check_gates := f31, e__check_gates := _, d__check_gates := ⟨fun_mk (st := s__check_gates) l31 c31 k31, PySem.W.mg_of X G a31, (fun_mk (st := s__check_gates) l31 c31 k31).binds (ps := ["inlets", "gates"]) (fun _ _ _ _ _ _ us hl => (match us, hl with | [_, _], _ => rfl))⟩,
    f__can_stand := f32, e__can_stand := _, d__can_stand := ⟨fun_mk (st := s__can_stand) l32 c32 k32, PySem.W.mg_of X G a32, (fun_mk (st := s__can_stand) l32 c32 k32).binds (ps := ["gate", "lanes", "free"]) (fun _ _ _ _ _ _ us hl => (match us, hl with | [_, _, _], _ => rfl))⟩,
    f__law_pen := f33, e__law_pen := _, d__law_pen := ⟨fun_mk (st := s__law_pen) l33 c33 k33, PySem.W.mg_of X G a33, (fun_mk (st := s__law_pen) l33 c33 k33).binds (ps := ["_law_script"]) (fun _ _ _ _ _ _ us hl => (match us, hl with | [_], _ => rfl))⟩,
    f__law_draw := f34, e__law_draw := _, d__law_draw := ⟨fun_mk (st := s__law_draw) l34 c34 k34, PySem.W.mg_of X G a34, (fun_mk (st := s__law_draw) l34 c34 k34).binds (ps := ["_law_pen_here", "_law_many"]) (fun _ _ _ _ _ _ us hl => (match us, hl with | [_, _], _ => rfl))⟩,
    f__law_pick := f35, e__law_pick := _, d__law_pick := ⟨fun_mk (st := s__law_pick) l35 c35 k35, PySem.W.mg_of X G a35, (fun_mk (st := s__law_pick) l35 c35 k35).binds (ps := ["_law_pen_here", "_law_some"]) (fun _ _ _ _ _ _ us hl => (match us, hl with | [_, _], _ => rfl))⟩,
    f__law_names := f36, e__law_names := _, d__law_names := ⟨fun_mk (st := s__law_names) l36 c36 k36, PySem.W.mg_of X G a36, (fun_mk (st := s__law_names) l36 c36 k36).binds (ps := ["_law_pen_here", "_law_many"]) (fun _ _ _ _ _ _ us hl => (match us, hl with | [_, _], _ => rfl))⟩,
    f__law_rhythm := f37, e__law_rhythm := _, d__law_rhythm := ⟨fun_mk (st := s__law_rhythm) l37 c37 k37, PySem.W.mg_of X G a37, (fun_mk (st := s__law_rhythm) l37 c37 k37).binds (ps := ["_law_pen_here"]) (fun _ _ _ _ _ _ us hl => (match us, hl with | [_], _ => rfl))⟩,
    f__law_given := f38, e__law_given := _, d__law_given := ⟨fun_mk (st := s__law_given) l38 c38 k38, PySem.W.mg_of X G a38, (fun_mk (st := s__law_given) l38 c38 k38).binds (ps := ["_law_gate_here"]) (fun _ _ _ _ _ _ us hl => (match us, hl with | [_], _ => rfl))⟩,
    f__law_room := f39, e__law_room := _, d__law_room := ⟨fun_mk (st := s__law_room) l39 c39 k39, PySem.W.mg_of X G a39, (fun_mk (st := s__law_room) l39 c39 k39).binds (ps := ["_law_gate_here"]) (fun _ _ _ _ _ _ us hl => (match us, hl with | [_], _ => rfl))⟩,
    f__law_gate := f40, e__law_gate := _, d__law_gate := ⟨fun_mk (st := s__law_gate) l40 c40 k40, PySem.W.mg_of X G a40, (fun_mk (st := s__law_gate) l40 c40 k40).binds (ps := ["_law_pen_here", "_law_free", "_law_names_here", "_law_room_here"]) (fun _ _ _ _ _ _ us hl => (match us, hl with | [_, _, _, _], _ => rfl))⟩,
    f__law_web := f41, e__law_web := _, d__law_web := ⟨fun_mk (st := s__law_web) l41 c41 k41, PySem.W.mg_of X G a41, (fun_mk (st := s__law_web) l41 c41 k41).binds (ps := ["_law_pen_here", "_law_most"]) (fun _ _ _ _ _ _ us hl => (match us, hl with | [_, _], _ => rfl))⟩,
    f__law_feed := f42, e__law_feed := _, d__law_feed := ⟨fun_mk (st := s__law_feed) l42 c42 k42, PySem.W.mg_of X G a42, (fun_mk (st := s__law_feed) l42 c42 k42).binds (ps := ["_law_pen_here", "_law_inlets", "_law_beats", "_law_ends"]) (fun _ _ _ _ _ _ us hl => (match us, hl with | [_, _, _, _], _ => rfl))⟩,
    f__law_inputs := f43, e__law_inputs := _, d__law_inputs := ⟨fun_mk (st := s__law_inputs) l43 c43 k43, PySem.W.mg_of X G a43, (fun_mk (st := s__law_inputs) l43 c43 k43).binds (ps := ["_law_inlets", "_law_beats"]) (fun _ _ _ _ _ _ us hl => (match us, hl with | [_, _], _ => rfl))⟩,
    f_law := fa, e_law := _, d_law := ⟨fun_mk (st := s_law) l44 c44 k44, PySem.W.mg_of X G a44, (fun_mk (st := s_law) l44 c44 k44).binds (ps := ["_law_script"]) (fun _ _ _ _ _ _ us hl => (match us, hl with | [_], _ => rfl))⟩,
    m_abs := PySem.W.mg_none_of X G z_abs,
    m_all := PySem.W.mg_none_of X G z_all,
    m_any := PySem.W.mg_none_of X G z_any,
    m_bool := PySem.W.mg_none_of X G z_bool,
    m_divmod := PySem.W.mg_none_of X G z_divmod,
    m_enumerate := PySem.W.mg_none_of X G z_enumerate,
    m_int := PySem.W.mg_none_of X G z_int,
    m_isinstance := PySem.W.mg_none_of X G z_isinstance,
    m_len := PySem.W.mg_none_of X G z_len,
    m_list := PySem.W.mg_none_of X G z_list,
    m_max := PySem.W.mg_none_of X G z_max,
    m_min := PySem.W.mg_none_of X G z_min,
    m_range := PySem.W.mg_none_of X G z_range,
    m_repr := PySem.W.mg_none_of X G z_repr,
    m_set := PySem.W.mg_none_of X G z_set,
    m_str := PySem.W.mg_none_of X G z_str,
    m_tuple := PySem.W.mg_none_of X G z_tuple,
    m_zip := PySem.W.mg_none_of X G z_zip,
    x_GIVEN := x_GIVEN, k_GIVEN := PySem.W.mg_of X G g_GIVEN, c_GIVEN := ⟨fun z i hz => (by
      have hm := mem_of_lookup hz
      simp only [w_GIVEN, List.mem_cons, List.not_mem_nil, or_false, Prod.mk.injEq] at hm
      rcases hm with ⟨rfl, rfl⟩ | ⟨rfl, rfl⟩ | ⟨rfl, rfl⟩ | ⟨rfl, rfl⟩ | ⟨rfl, rfl⟩ | ⟨rfl, rfl⟩
      · exact ⟨_, _, _, l_GIVEN, y_GIVEN, v_GIVEN_0, ⟨_, rfl⟩⟩
      · exact ⟨_, _, _, l_GIVEN, y_GIVEN, v_GIVEN_1, ⟨_, rfl⟩⟩
      · exact ⟨_, _, _, l_GIVEN, y_GIVEN, v_GIVEN_2, ⟨_, rfl⟩⟩
      · exact ⟨_, _, _, l_GIVEN, y_GIVEN, v_GIVEN_3, ⟨_, rfl⟩⟩
      · exact ⟨_, _, _, l_GIVEN, y_GIVEN, v_GIVEN_4, ⟨_, rfl⟩⟩
      · exact ⟨_, _, _, l_GIVEN, y_GIVEN, v_GIVEN_5, ⟨_, rfl⟩⟩), s_GIVEN⟩,
    t_GREATEST := t_GREATEST, c_GREATEST := PySem.W.mg_of X G g_GREATEST,
    t_LETTERS := t_LETTERS, c_LETTERS := PySem.W.mg_of X G g_LETTERS,
    t_LONGEST_NAME := t_LONGEST_NAME, c_LONGEST_NAME := PySem.W.mg_of X G g_LONGEST_NAME,
    t_LONGEST_RHYTHM := t_LONGEST_RHYTHM, c_LONGEST_RHYTHM := PySem.W.mg_of X G g_LONGEST_RHYTHM,
    t_LONGEST_ROW := t_LONGEST_ROW, c_LONGEST_ROW := PySem.W.mg_of X G g_LONGEST_ROW,
    t_LONGEST_TEXT := t_LONGEST_TEXT, c_LONGEST_TEXT := PySem.W.mg_of X G g_LONGEST_TEXT,
    t_MOST_GATES := t_MOST_GATES, c_MOST_GATES := PySem.W.mg_of X G g_MOST_GATES,
    t_MOST_INLETS := t_MOST_INLETS, c_MOST_INLETS := PySem.W.mg_of X G g_MOST_INLETS,
    t_MOST_KEPT := t_MOST_KEPT, c_MOST_KEPT := PySem.W.mg_of X G g_MOST_KEPT,
    x_TAKEN := x_TAKEN, k_TAKEN := PySem.W.mg_of X G g_TAKEN, c_TAKEN := ⟨fun z i hz => (by
      have hm := mem_of_lookup hz
      simp only [w_TAKEN, List.mem_cons, List.not_mem_nil, or_false, Prod.mk.injEq] at hm
      rcases hm with ⟨rfl, rfl⟩ | ⟨rfl, rfl⟩ | ⟨rfl, rfl⟩ | ⟨rfl, rfl⟩ | ⟨rfl, rfl⟩ | ⟨rfl, rfl⟩
      · exact ⟨_, _, _, l_TAKEN, y_TAKEN, v_TAKEN_0, ⟨_, rfl⟩⟩
      · exact ⟨_, _, _, l_TAKEN, y_TAKEN, v_TAKEN_1, ⟨_, rfl⟩⟩
      · exact ⟨_, _, _, l_TAKEN, y_TAKEN, v_TAKEN_2, ⟨_, rfl⟩⟩
      · exact ⟨_, _, _, l_TAKEN, y_TAKEN, v_TAKEN_3, ⟨_, rfl⟩⟩
      · exact ⟨_, _, _, l_TAKEN, y_TAKEN, v_TAKEN_4, ⟨_, rfl⟩⟩
      · exact ⟨_, _, _, l_TAKEN, y_TAKEN, v_TAKEN_5, ⟨_, rfl⟩⟩), s_TAKEN⟩ }
  exact ⟨_, fun s v => .of_eq rfl, fun base _ _ => ok_law T⟩
theorem law_sp (w : World) (ns : List Int) (h : ns.length ≤ 63) : sp_law [.fro (ns.map D.int)] (fun _ => none) (fun _ _ _ => False) (fun d _ => d = .bl true) := ⟨rfl, ns, rfl, rfl⟩
end K08

set_option maxRecDepth 100000
open PySem PySem.W PyProof.Rows
set_option maxHeartbeats 0 in
theorem PySem.Challenge.cw_holdgates_k08_inputs_and_cuts_holds : PySem.Challenge.rw_holdgates_k08_inputs_and_cuts.Holds := by
  w_on; o_law; k_head; (case hw => w_witness2)
  k_fill
  refine TV.walk_ofH (l := PySem.Challenge.rw_holdgates_k08_inputs_and_cuts) (n := 63) (k := 11) (x := "_law_script") (sp := fun _ => K08.sp_law) rfl (by decide) rfl (TV.Rm.call.mono (by decide)) ?imp ?ks ?F K08.law_sp
  case imp => decide +kernel
  case ks => decide +kernel
  case F =>
    intro w mg fa h KX G hmg
    refine' K08.all_mk KX G hmg ?gC_Web ?cA_Web ?cB_Web ?cC_Web ?cD_Web ?cE_Web ?cF_Web ?cG_Web ?cH_Web ?cI_Web ?cJ_Web ?cK_Web ?cL_Web ?cM_Web ?cT0_Web ?cT1_Web ?cT2_Web ?cT3_Web ?cT4_Web ?cT5_Web ?cT6_Web ?cN_Web__inlets ?cN_Web__gates ?a0 ?l0 ?c0 ?k0 ?a1 ?l1 ?c1 ?k1 ?a2 ?l2 ?c2 ?k2 ?a3 ?l3 ?c3 ?k3 ?a4 ?l4 ?c4 ?k4 ?a5 ?l5 ?c5 ?k5 ?a6 ?l6 ?c6 ?k6 ?a7 ?l7 ?c7 ?k7 ?a8 ?l8 ?c8 ?k8 ?a9 ?l9 ?c9 ?k9 ?a10 ?l10 ?c10 ?k10 ?a11 ?l11 ?c11 ?k11 ?a12 ?l12 ?c12 ?k12 ?a13 ?l13 ?c13 ?k13 ?a14 ?l14 ?c14 ?k14 ?a15 ?l15 ?c15 ?k15 ?a16 ?l16 ?c16 ?k16 ?a17 ?l17 ?c17 ?k17 ?a18 ?l18 ?c18 ?k18 ?a19 ?l19 ?c19 ?k19 ?a20 ?l20 ?c20 ?k20 ?a21 ?l21 ?c21 ?k21 ?a22 ?l22 ?c22 ?k22 ?a23 ?l23 ?c23 ?k23 ?a24 ?l24 ?c24 ?k24 ?a25 ?l25 ?c25 ?k25 ?a26 ?l26 ?c26 ?k26 ?a27 ?l27 ?c27 ?k27 ?i27 ?lT27 ?lE27 ?a28 ?l28 ?c28 ?k28 ?i28 ?a29 ?l29 ?c29 ?k29 ?a30 ?l30 ?c30 ?k30 ?a31 ?l31 ?c31 ?k31 ?a32 ?l32 ?c32 ?k32 ?a33 ?l33 ?c33 ?k33 ?a34 ?l34 ?c34 ?k34 ?a35 ?l35 ?c35 ?k35 ?a36 ?l36 ?c36 ?k36 ?a37 ?l37 ?c37 ?k37 ?a38 ?l38 ?c38 ?k38 ?a39 ?l39 ?c39 ?k39 ?a40 ?l40 ?c40 ?k40 ?a41 ?l41 ?c41 ?k41 ?a42 ?l42 ?c42 ?k42 ?a43 ?l43 ?c43 ?k43 ?a44 ?l44 ?c44 ?k44 ?z_abs ?z_all ?z_any ?z_bool ?z_divmod ?z_enumerate ?z_int ?z_isinstance ?z_len ?z_list ?z_max ?z_min ?z_range ?z_repr ?z_set ?z_str ?z_tuple ?z_zip ?g_GIVEN ?l_GIVEN ?v_GIVEN_0 ?v_GIVEN_1 ?v_GIVEN_2 ?v_GIVEN_3 ?v_GIVEN_4 ?v_GIVEN_5 ?y_GIVEN ?s_GIVEN ?g_GREATEST ?g_LETTERS ?g_LONGEST_NAME ?g_LONGEST_RHYTHM ?g_LONGEST_ROW ?g_LONGEST_TEXT ?g_MOST_GATES ?g_MOST_INLETS ?g_MOST_KEPT ?g_TAKEN ?l_TAKEN ?v_TAKEN_0 ?v_TAKEN_1 ?v_TAKEN_2 ?v_TAKEN_3 ?v_TAKEN_4 ?v_TAKEN_5 ?y_TAKEN ?s_TAKEN
    (case gC_Web => k_is); (case cA_Web => k_is); (case cB_Web => k_is); (case cC_Web => k_is); (case cD_Web => k_is); (case cE_Web => k_is); (case cF_Web => k_is); (case cG_Web => k_is); (case cH_Web => k_is); (case cI_Web => k_is); (case cJ_Web => k_is); (case cK_Web => k_is); (case cL_Web => k_is); (case cM_Web => k_is); (case cT0_Web => k_is); (case cT1_Web => k_is); (case cT2_Web => k_is); (case cT3_Web => k_is); (case cT4_Web => k_is); (case cT5_Web => k_is); (case cT6_Web => k_is); (case cN_Web__inlets => k_is); (case cN_Web__gates => k_is); (case a0 => k_is); (case l0 => k_is); (case c0 => k_is); (case k0 => k_is); (case a1 => k_is); (case l1 => k_is); (case c1 => k_is); (case k1 => k_is); (case a2 => k_is); (case l2 => k_is); (case c2 => k_is); (case k2 => k_is); (case a3 => k_is); (case l3 => k_is); (case c3 => k_is); (case k3 => k_is); (case a4 => k_is); (case l4 => k_is); (case c4 => k_is); (case k4 => k_is); (case a5 => k_is); (case l5 => k_is); (case c5 => k_is); (case k5 => k_is); (case a6 => k_is); (case l6 => k_is); (case c6 => k_is); (case k6 => k_is); (case a7 => k_is); (case l7 => k_is); (case c7 => k_is); (case k7 => k_is); (case a8 => k_is); (case l8 => k_is); (case c8 => k_is); (case k8 => k_is); (case a9 => k_is); (case l9 => k_is); (case c9 => k_is); (case k9 => k_is); (case a10 => k_is); (case l10 => k_is); (case c10 => k_is); (case k10 => k_is); (case a11 => k_is); (case l11 => k_is); (case c11 => k_is); (case k11 => k_is); (case a12 => k_is); (case l12 => k_is); (case c12 => k_is); (case k12 => k_is); (case a13 => k_is); (case l13 => k_is); (case c13 => k_is); (case k13 => k_is); (case a14 => k_is); (case l14 => k_is); (case c14 => k_is); (case k14 => k_is); (case a15 => k_is); (case l15 => k_is); (case c15 => k_is); (case k15 => k_is); (case a16 => k_is); (case l16 => k_is); (case c16 => k_is); (case k16 => k_is); (case a17 => k_is); (case l17 => k_is); (case c17 => k_is); (case k17 => k_is); (case a18 => k_is); (case l18 => k_is); (case c18 => k_is); (case k18 => k_is); (case a19 => k_is); (case l19 => k_is); (case c19 => k_is); (case k19 => k_is); (case a20 => k_is); (case l20 => k_is); (case c20 => k_is); (case k20 => k_is); (case a21 => k_is); (case l21 => k_is); (case c21 => k_is); (case k21 => k_is); (case a22 => k_is); (case l22 => k_is); (case c22 => k_is); (case k22 => k_is); (case a23 => k_is); (case l23 => k_is); (case c23 => k_is); (case k23 => k_is); (case a24 => k_is); (case l24 => k_is); (case c24 => k_is); (case k24 => k_is); (case a25 => k_is); (case l25 => k_is); (case c25 => k_is); (case k25 => k_is); (case a26 => k_is); (case l26 => k_is); (case c26 => k_is); (case k26 => k_is); (case a27 => k_is); (case l27 => k_is); (case c27 => k_is); (case k27 => k_is); (case i27 => k_is); (case lT27 => k_is); (case lE27 => k_is); (case a28 => k_is); (case l28 => k_is); (case c28 => k_is); (case k28 => k_is); (case i28 => k_is); (case a29 => k_is); (case l29 => k_is); (case c29 => k_is); (case k29 => k_is); (case a30 => k_is); (case l30 => k_is); (case c30 => k_is); (case k30 => k_is); (case a31 => k_is); (case l31 => k_is); (case c31 => k_is); (case k31 => k_is); (case a32 => k_is); (case l32 => k_is); (case c32 => k_is); (case k32 => k_is); (case a33 => k_is); (case l33 => k_is); (case c33 => k_is); (case k33 => k_is); (case a34 => k_is); (case l34 => k_is); (case c34 => k_is); (case k34 => k_is); (case a35 => k_is); (case l35 => k_is); (case c35 => k_is); (case k35 => k_is); (case a36 => k_is); (case l36 => k_is); (case c36 => k_is); (case k36 => k_is); (case a37 => k_is); (case l37 => k_is); (case c37 => k_is); (case k37 => k_is); (case a38 => k_is); (case l38 => k_is); (case c38 => k_is); (case k38 => k_is); (case a39 => k_is); (case l39 => k_is); (case c39 => k_is); (case k39 => k_is); (case a40 => k_is); (case l40 => k_is); (case c40 => k_is); (case k40 => k_is); (case a41 => k_is); (case l41 => k_is); (case c41 => k_is); (case k41 => k_is); (case a42 => k_is); (case l42 => k_is); (case c42 => k_is); (case k42 => k_is); (case a43 => k_is); (case l43 => k_is); (case c43 => k_is); (case k43 => k_is); (case a44 => k_is); (case l44 => k_is); (case c44 => k_is); (case k44 => k_is); (case z_abs => k_is); (case z_all => k_is); (case z_any => k_is); (case z_bool => k_is); (case z_divmod => k_is); (case z_enumerate => k_is); (case z_int => k_is); (case z_isinstance => k_is); (case z_len => k_is); (case z_list => k_is); (case z_max => k_is); (case z_min => k_is); (case z_range => k_is); (case z_repr => k_is); (case z_set => k_is); (case z_str => k_is); (case z_tuple => k_is); (case z_zip => k_is); (case g_GIVEN => k_is); (case l_GIVEN => k_is); (case v_GIVEN_0 => k_is); (case v_GIVEN_1 => k_is); (case v_GIVEN_2 => k_is); (case v_GIVEN_3 => k_is); (case v_GIVEN_4 => k_is); (case v_GIVEN_5 => k_is); (case y_GIVEN => exact ⟨⟨_, _, rfl, rfl⟩, ⟨_, _, rfl, rfl⟩, ⟨_, _, rfl, rfl⟩, ⟨_, _, rfl, rfl⟩, ⟨_, _, rfl, rfl⟩, ⟨_, _, rfl, rfl⟩, trivial⟩); (case s_GIVEN => rfl); (case g_GREATEST => k_is); (case g_LETTERS => k_is); (case g_LONGEST_NAME => k_is); (case g_LONGEST_RHYTHM => k_is); (case g_LONGEST_ROW => k_is); (case g_LONGEST_TEXT => k_is); (case g_MOST_GATES => k_is); (case g_MOST_INLETS => k_is); (case g_MOST_KEPT => k_is); (case g_TAKEN => k_is); (case l_TAKEN => k_is); (case v_TAKEN_0 => k_is); (case v_TAKEN_1 => k_is); (case v_TAKEN_2 => k_is); (case v_TAKEN_3 => k_is); (case v_TAKEN_4 => k_is); (case v_TAKEN_5 => k_is); (case y_TAKEN => exact ⟨⟨_, _, rfl, rfl⟩, ⟨_, _, rfl, rfl⟩, ⟨_, _, rfl, rfl⟩, ⟨_, _, rfl, rfl⟩, ⟨_, _, rfl, rfl⟩, ⟨_, _, rfl, rfl⟩, trivial⟩); (case s_TAKEN => rfl)

