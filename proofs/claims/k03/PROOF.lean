import PyProof.Rows.All
import Wide.All
import OpenK.AllK
import Wide.FinOn
import HandS.ForMost
import HandS.ForExc
import HandS.IsInst
import HandS.Conv
import HandS.StrMore
import HandS.Style
import HandS.SetFor
import HandS.Strs
import HandS.TryOnly
import HandS.ExcOwn
import HandS.ExcIs
import HandS.CallSlots
import HandS.WordsExc
import PyProof.CallFns
import HandS.RaiseMore
import HandS.ExcInit
import HandS.ExcField
import PyProof.EnumMake
import PyProof.Draws
import KE.GoesMore
import PyProof.Rows.RegReprOcc
import KE.KExcIs
import HandS.Defaults
import PySem.Challenge.RW_notchsafe_k03_ways_refused
set_option Elab.async false
set_option linter.all false
set_option maxRecDepth 100000
/-! L3a -/
set_option maxHeartbeats 4000000
namespace L3
open PySem L2

/-- data, without a heap -/
inductive D where
  | raw (v : V)
  | tup (xs : List D)
  | lst (xs : List D)
  | ro (xs : List D)
  | obj (C : Addr) (ns : List Str) (xs : List D)
  | exc (a dx : Addr) (ns : List Str) (xs : List D)
abbrev D.int (i : Int) : D := .raw (.int i)
abbrev D.str (s : Str) : D := .raw (.str s)
abbrev D.bl (b : Bool) : D := .raw (.bl b)
abbrev D.non : D := .raw .non

mutual
inductive Rep (K : PySem.W.Frag) (G : Hp) : V → D → Prop
  | raw (v : V) : Rep K G v (.raw v)
  | tup {p : Addr} {vs : List V} {ds : List D} : SqT K G p vs → Reps K G vs ds → Rep K G (.ref p) (.tup ds)
  | lst {p : Addr} {vs : List V} {ds : List D} : G p = some (.lst vs) → Reps K G vs ds → Rep K G (.ref p) (.lst ds)
  | ro {p : Addr} {vs : List V} {ds : List D} : SqL K G p vs → Reps K G vs ds → Rep K G (.ref p) (.ro ds)
  | obj {p C dx : Addr} {fs : List (Str × V)} {ns : List Str} {ds : List D} : G p = some (.ins C dx fs) → fs.map (·.1) = ns → Reps K G (fs.map (·.2)) ds → Rep K G (.ref p) (.obj C ns ds)
  | exc {a dx : Addr} {fs : List (Str × V)} {ns : List Str} {ds : List D} : G dx = some (.xd fs) → fs.map (·.1) = ns → Reps K G (fs.map (·.2)) ds → Rep K G (.ref a) (.exc a dx ns ds)
inductive Reps (K : PySem.W.Frag) (G : Hp) : List V → List D → Prop
  | nil : Reps K G [] []
  | cons {v : V} {vs : List V} {d : D} {ds : List D} : Rep K G v d → Reps K G vs ds → Reps K G (v :: vs) (d :: ds)
end
theorem seqT {K : PySem.W.Frag} {H H' : Hp} {a : Addr} {xs : List V} (e : Same H H') (h : SqT K H a xs) : SqT K H' a xs := by
  rcases h with (h | ⟨o, h⟩) | h
  · exact .inl (.inl (e _ _ h))
  · exact .inl (.inr ⟨o, e _ _ h⟩)
  · exact .inr h
mutual
theorem Rep.mono {K : PySem.W.Frag} {G G' : Hp} (e : Same G G') : ∀ {v : V} {d : D}, Rep K G v d → Rep K G' v d
  | _, _, .raw v => .raw v
  | _, _, .tup h hs => .tup (seqT e h) (Reps.mono e hs)
  | _, _, .lst h hs => .lst (e _ _ h) (Reps.mono e hs)
  | _, _, .ro h hs => .ro (e.seq h) (Reps.mono e hs)
  | _, _, .obj h hn hs => .obj (e _ _ h) hn (Reps.mono e hs)
  | _, _, .exc h hn hs => .exc (e _ _ h) hn (Reps.mono e hs)
theorem Reps.mono {K : PySem.W.Frag} {G G' : Hp} (e : Same G G') : ∀ {vs : List V} {ds : List D}, Reps K G vs ds → Reps K G' vs ds
  | _, _, .nil => .nil
  | _, _, .cons h hs => .cons (Rep.mono e h) (Reps.mono e hs)
end
section
variable {K : PySem.W.Frag} {G G' H H' : Hp} {v w : V} {vs ws : List V} {d : D} {ds es : List D}
theorem Rep.raw_inv (h : Rep K G v (.raw w)) : v = w := by cases h; rfl
theorem Rep.tup_inv (h : Rep K G v (.tup ds)) : ∃ p vs, v = .ref p ∧ SqT K G p vs ∧ Reps K G vs ds := by
  cases h with
  | tup a b => exact ⟨_, _, rfl, a, b⟩
theorem Rep.lst_get (h : Rep K G v (.lst ds)) : ∃ p vs, v = .ref p ∧ G p = some (.lst vs) ∧ Reps K G vs ds := by
  cases h with
  | lst a b => exact ⟨_, _, rfl, a, b⟩
theorem Rep.lst_inv (h : Rep K G v (.lst ds)) : ∃ p vs, v = .ref p ∧ SqL K G p vs ∧ Reps K G vs ds := by
  obtain ⟨p, vs, a, b, c⟩ := h.lst_get
  exact ⟨p, vs, a, .inl (.inl b), c⟩
theorem Rep.ro_inv (h : Rep K G v (.ro ds)) : ∃ p vs, v = .ref p ∧ SqL K G p vs ∧ Reps K G vs ds := by
  cases h with
  | ro a b => exact ⟨_, _, rfl, a, b⟩
theorem Rep.obj_inv {C : Addr} {ns : List Str} (h : Rep K G v (.obj C ns ds)) : ∃ p dx fs, v = .ref p ∧ G p = some (.ins C dx fs) ∧ fs.map (·.1) = ns ∧ Reps K G (fs.map (·.2)) ds := by
  cases h with
  | obj a b c => exact ⟨_, _, _, rfl, a, b, c⟩
theorem Rep.exc_inv {a dx : Addr} {ns : List Str} (h : Rep K G v (.exc a dx ns ds)) : ∃ fs, v = .ref a ∧ G dx = some (.xd fs) ∧ fs.map (·.1) = ns ∧ Reps K G (fs.map (·.2)) ds := by
  cases h with
  | exc a b c => exact ⟨_, rfl, a, b, c⟩
theorem Reps.length : ∀ {vs : List V} {ds : List D}, Reps K G vs ds → vs.length = ds.length
  | _, _, .nil => rfl
  | _, _, .cons _ t => congrArg (· + 1) (Reps.length t)
theorem Reps.append : ∀ {vs ws : List V} {ds es : List D}, Reps K G vs ds → Reps K G ws es → Reps K G (vs ++ ws) (ds ++ es)
  | _, _, _, _, .nil, s => s
  | _, _, _, _, .cons r t, s => .cons r (Reps.append t s)
theorem Reps.get : ∀ {vs : List V} {ds : List D} {i : Nat} {d : D}, Reps K G vs ds → ds[i]? = some d → ∃ v, vs[i]? = some v ∧ Rep K G v d
  | _, _, _, _, .nil, e => by simp at e
  | _, _, 0, _, .cons r _, e => by simp at e; subst e; exact ⟨_, rfl, r⟩
  | _, _, i + 1, _, .cons _ t, e => by
    obtain ⟨u, h1, h2⟩ := Reps.get (i := i) t (by simpa using e)
    exact ⟨u, by simpa using h1, h2⟩
theorem Reps.getV : ∀ {vs : List V} {ds : List D} {i : Nat} {v : V}, Reps K G vs ds → vs[i]? = some v → ∃ d, ds[i]? = some d ∧ Rep K G v d
  | _, _, _, _, .nil, e => by simp at e
  | _, _, 0, _, .cons r _, e => by simp at e; subst e; exact ⟨_, rfl, r⟩
  | _, _, i + 1, _, .cons _ t, e => by
    obtain ⟨u, h1, h2⟩ := Reps.getV (i := i) t (by simpa using e)
    exact ⟨u, by simpa using h1, h2⟩
theorem Reps.take (n : Nat) : ∀ {vs : List V} {ds : List D}, Reps K G vs ds → Reps K G (vs.take n) (ds.take n) := by
  induction n with
  | zero => intro vs ds _; exact .nil
  | succ n ih =>
    intro vs ds h
    cases h with
    | nil => exact .nil
    | cons r t => exact .cons r (ih t)
theorem Reps.drop (n : Nat) : ∀ {vs : List V} {ds : List D}, Reps K G vs ds → Reps K G (vs.drop n) (ds.drop n) := by
  induction n with
  | zero => intro vs ds h; exact h
  | succ n ih =>
    intro vs ds h
    cases h with
    | nil => exact .nil
    | cons r t => exact ih t
theorem Reps.reverse : ∀ {vs : List V} {ds : List D}, Reps K G vs ds → Reps K G vs.reverse ds.reverse
  | _, _, .nil => .nil
  | _, _, .cons r t => by
    rw [List.reverse_cons, List.reverse_cons]
    exact Reps.append (Reps.reverse t) (.cons r .nil)
theorem Reps.set {v : V} {d : D} (r : Rep K G v d) : ∀ {vs : List V} {ds : List D} (i : Nat), Reps K G vs ds → Reps K G (vs.set i v) (ds.set i d)
  | _, _, _, .nil => .nil
  | _, _, 0, .cons _ t => .cons r t
  | _, _, i + 1, .cons q t => .cons q (Reps.set r i t)
theorem Reps.eraseIdx : ∀ {vs : List V} {ds : List D} (i : Nat), Reps K G vs ds → Reps K G (vs.eraseIdx i) (ds.eraseIdx i)
  | _, _, _, .nil => .nil
  | _, _, 0, .cons _ t => t
  | _, _, i + 1, .cons q t => .cons q (Reps.eraseIdx i t)
theorem Reps.raws : ∀ {vs ws : List V}, Reps K G vs (ws.map D.raw) → vs = ws
  | _, [], h => by cases h; rfl
  | _, w :: ws, h => by
    cases h with
    | cons r t => rw [r.raw_inv, Reps.raws t]
theorem Reps.of_raws : ∀ (ws : List V), Reps K G ws (ws.map D.raw)
  | [] => .nil
  | w :: ws => .cons (.raw w) (Reps.of_raws ws)
end

/-! ### what is owned: objects that may change -/
inductive CO where
  | gone
  | lst (ds : List D)
  | dct (kds : List (Key × D))
  | ins (C : Addr) (ns : List Str) (ds : List D)
abbrev Cells := List (Addr × CO)
def CellOk (K : PySem.W.Frag) (G H : Hp) (p : Addr) : CO → Prop
  | .gone => True
  | .lst ds => G p = none ∧ ∃ vs, H p = some (.lst vs) ∧ Reps K G vs ds
  | .dct kds => G p = none ∧ ∃ kvs, H p = some (.dK kvs) ∧ kvs.map (·.1) = kds.map (·.1) ∧ Reps K G (kvs.map (·.2)) (kds.map (·.2))
  | .ins C ns ds => G p = none ∧ ∃ dx fs, H p = some (.ins C dx fs) ∧ fs.map (·.1) = ns ∧ Reps K G (fs.map (·.2)) ds
structure Own (K : PySem.W.Frag) (G H : Hp) (cs : Cells) : Prop where
  same : Same G H
  cell : ∀ (i : Nat) (p : Addr) (co : CO), cs[i]? = some (p, co) → CellOk K G H p co
  inj : ∀ (i j : Nat) (p : Addr) (co co' : CO), cs[i]? = some (p, co) → cs[j]? = some (p, co') → i = j
  there : ∀ (i : Nat) (p : Addr) (co : CO), cs[i]? = some (p, co) → ∃ o, H p = some o
section
variable {K : PySem.W.Frag} {G G' H H' : Hp} {p q : Addr} {o : HO} {co : CO} {cs : Cells} {i : Nat}
theorem same_new {H : Hp} {p : Addr} {o : HO} (h : H p = none) : Same H (upd H p o) := fun a u e => by
  rw [upd_ne (ne_of_none e h)]
  exact e
/-- another heap in which this cell stands the same -/
theorem CellOk.to (h : CellOk K G H p co) (e : Same G G') (n : G p = none → G' p = none) (k : H' p = H p) : CellOk K G' H' p co := by
  cases co with
  | gone => trivial
  | lst ds =>
    obtain ⟨a, vs, b, c⟩ := h
    exact ⟨n a, vs, by rw [k]; exact b, c.mono e⟩
  | dct kds =>
    obtain ⟨a, vs, b, c, d⟩ := h
    exact ⟨n a, vs, by rw [k]; exact b, c, d.mono e⟩
  | ins C ns ds =>
    obtain ⟨a, dx, fs, b, c, d⟩ := h
    exact ⟨n a, dx, fs, by rw [k]; exact b, c, d.mono e⟩
theorem Own.ne (I : Own K G H cs) (e : cs[i]? = some (q, co)) (n : H p = none) : q ≠ p := by
  obtain ⟨o, h⟩ := I.there i q co e
  exact ne_of_none h n
/-- a new object, from now on as it is -/
theorem Own.fresh (I : Own K G H cs) (n : H p = none) : Own K (upd G p o) (upd H p o) cs where
  same := fun a u e => by
    by_cases h : a = p
    · subst h
      rw [upd_same] at e ⊢
      exact e
    · rw [upd_ne h] at e ⊢
      exact I.same a u e
  cell := fun i q co e => (I.cell i q co e).to (same_new (I.same.free n)) (fun z => by rw [upd_ne (I.ne e n)]; exact z) (upd_ne (I.ne e n))
  inj := I.inj
  there := fun i q co e => by
    obtain ⟨u, h⟩ := I.there i q co e
    exact ⟨u, by rw [upd_ne (I.ne e n)]; exact h⟩
/-- a heap that has grown beside the cells -/
theorem Own.grown (I : Own K G H cs) (e : Same H H') : Own K G H' cs where
  same := I.same.trans e
  cell := fun i q co h => by
    obtain ⟨u, hu⟩ := I.there i q co h
    exact (I.cell i q co h).to (Same.refl G) (fun z => z) ((e _ _ hu).trans hu.symm)
  inj := I.inj
  there := fun i q co h => by
    obtain ⟨u, hu⟩ := I.there i q co h
    exact ⟨u, e _ _ hu⟩
theorem Own.nil (H : Hp) (G : Hp) (e : Same G H) : Own K G H [] := ⟨e, fun i _ _ h => by simp at h, fun i _ _ _ _ h => by simp at h, fun i _ _ h => by simp at h⟩
/-- a new object that is owned: a cell at the end -/
theorem Own.snoc (I : Own K G H cs) (n : H p = none) (ok : CellOk K G (upd H p o) p co) : Own K G (upd H p o) (cs ++ [(p, co)]) := by
  have key : ∀ {i : Nat} {q : Addr} {c : CO}, (cs ++ [(p, co)])[i]? = some (q, c) → (cs[i]? = some (q, c) ∧ q ≠ p ∧ i < cs.length) ∨ (i = cs.length ∧ q = p ∧ c = co) := by
    intro i q c h
    by_cases hi : i < cs.length
    · rw [List.getElem?_append_left hi] at h
      exact .inl ⟨h, I.ne h n, hi⟩
    · rw [List.getElem?_append_right (by omega)] at h
      have hz : i - cs.length = 0 := by
        cases hx : i - cs.length with
        | zero => rfl
        | succ k =>
          rw [hx] at h
          simp at h
      rw [hz] at h
      simp at h
      exact .inr ⟨by omega, h.1.symm, h.2.symm⟩
  refine ⟨I.same.trans (same_new n), fun i q c h => ?_, fun i j q c c' h h' => ?_, fun i q c h => ?_⟩
  · rcases key h with ⟨a, b, _⟩ | ⟨_, rfl, rfl⟩
    · exact (I.cell i q c a).to (Same.refl G) (fun z => z) (upd_ne b)
    · exact ok
  · rcases key h with ⟨a, b, l⟩ | ⟨a, b, _⟩
    · rcases key h' with ⟨a', _, _⟩ | ⟨_, b', _⟩
      · exact I.inj i j q c c' a a'
      · exact absurd b' b
    · rcases key h' with ⟨_, b', _⟩ | ⟨a', _, _⟩
      · exact absurd b b'
      · omega
  · rcases key h with ⟨a, b, _⟩ | ⟨_, rfl, _⟩
    · obtain ⟨u, hu⟩ := I.there i q c a
      exact ⟨u, by rw [upd_ne b]; exact hu⟩
    · exact ⟨o, upd_same⟩
/-- a cell is written -/
theorem Own.put (I : Own K G H cs) (e : cs[i]? = some (p, co)) (gn : G p = none) {co' : CO} (ok : CellOk K G (upd H p o) p co') : Own K G (upd H p o) (cs.set i (p, co')) := by
  have hlt : i < cs.length := (List.getElem?_eq_some_iff.mp e).1
  have key : ∀ {j : Nat} {q : Addr} {c : CO}, (cs.set i (p, co'))[j]? = some (q, c) → (j ≠ i ∧ cs[j]? = some (q, c) ∧ q ≠ p) ∨ (j = i ∧ q = p ∧ c = co') := by
    intro j q c h
    by_cases hj : j = i
    · subst hj
      rw [List.getElem?_set_self hlt] at h
      simp at h
      exact .inr ⟨rfl, h.1.symm, h.2.symm⟩
    · rw [List.getElem?_set_ne (Ne.symm hj)] at h
      refine .inl ⟨hj, h, fun z => hj ?_⟩
      subst z
      exact I.inj j i q c co h e
  refine ⟨fun a u h => by rw [upd_ne (ne_of_none h gn)]; exact I.same a u h, fun j q c h => ?_, fun j k q c c' h h' => ?_, fun j q c h => ?_⟩
  · rcases key h with ⟨_, a, b⟩ | ⟨_, rfl, rfl⟩
    · exact (I.cell j q c a).to (Same.refl G) (fun z => z) (upd_ne b)
    · exact ok
  · rcases key h with ⟨_, a, b⟩ | ⟨a, b, _⟩
    · rcases key h' with ⟨_, a', _⟩ | ⟨_, b', _⟩
      · exact I.inj j k q c c' a a'
      · exact absurd b' b
    · rcases key h' with ⟨_, _, b'⟩ | ⟨a', _, _⟩
      · exact absurd b b'
      · omega
  · rcases key h with ⟨_, a, b⟩ | ⟨_, rfl, _⟩
    · obtain ⟨u, hu⟩ := I.there j q c a
      exact ⟨u, by rw [upd_ne b]; exact hu⟩
    · exact ⟨o, upd_same⟩
theorem Own.take (I : Own K G H cs) (n : Nat) : Own K G H (cs.take n) := by
  have key : ∀ {j : Nat} {x : Addr × CO}, (cs.take n)[j]? = some x → cs[j]? = some x := by
    intro j x h
    rw [List.getElem?_take] at h
    split at h
    · exact h
    · cases h
  exact ⟨I.same, fun i p co h => I.cell i p co (key h), fun i j p co co' h h' => I.inj i j p co co' (key h) (key h'), fun i p co h => I.there i p co (key h)⟩
/-- a cell is no longer to change -/
theorem Own.share (I : Own K G H cs) (e : cs[i]? = some (p, co)) (hp : H p = some o) (gn : G p = none) : Own K (upd G p o) H (cs.set i (p, .gone)) ∧ Same G (upd G p o) := by
  have hlt : i < cs.length := (List.getElem?_eq_some_iff.mp e).1
  have key : ∀ {j : Nat} {q : Addr} {c : CO}, (cs.set i (p, .gone))[j]? = some (q, c) → (j ≠ i ∧ cs[j]? = some (q, c) ∧ q ≠ p) ∨ (j = i ∧ q = p ∧ c = .gone) := by
    intro j q c h
    by_cases hj : j = i
    · subst hj
      rw [List.getElem?_set_self hlt] at h
      simp at h
      exact .inr ⟨rfl, h.1.symm, h.2.symm⟩
    · rw [List.getElem?_set_ne (Ne.symm hj)] at h
      refine .inl ⟨hj, h, fun z => hj ?_⟩
      subst z
      exact I.inj j i q c co h e
  refine ⟨⟨fun a u h => ?_, fun j q c h => ?_, fun j k q c c' h h' => ?_, fun j q c h => ?_⟩, same_new gn⟩
  · by_cases hb : a = p
    · subst hb
      rw [upd_same] at h
      rw [← h]
      exact hp
    · rw [upd_ne hb] at h
      exact I.same a u h
  · rcases key h with ⟨_, a, b⟩ | ⟨_, rfl, rfl⟩
    · exact (I.cell j q c a).to (same_new gn) (fun z => by rw [upd_ne b]; exact z) rfl
    · trivial
  · rcases key h with ⟨_, a, b⟩ | ⟨a, b, _⟩
    · rcases key h' with ⟨_, a', _⟩ | ⟨_, b', _⟩
      · exact I.inj j k q c c' a a'
      · exact absurd b' b
    · rcases key h' with ⟨_, _, b'⟩ | ⟨a', _, _⟩
      · exact absurd b b'
      · omega
  · rcases key h with ⟨_, a, b⟩ | ⟨_, rfl, _⟩
    · exact I.there j q c a
    · exact ⟨o, hp⟩
theorem Own.lst {ds : List D} (I : Own K G H cs) (e : cs[i]? = some (p, .lst ds)) : G p = none ∧ ∃ vs, H p = some (.lst vs) ∧ Reps K G vs ds := I.cell i p _ e
end
end L3

/-! L3b -/
set_option maxHeartbeats 4000000
namespace L3
open PySem L2

abbrev Env := List (Option D)
def RepE (K : PySem.W.Frag) (G : Hp) (σ : L2.St) (Δ : Env) : Prop := σ.length = Δ.length ∧ ∀ (i : Nat) (d : D), Δ[i]? = some (some d) → ∃ v, σ[i]? = some (some v) ∧ Rep K G v d
abbrev RK := D → Cells → Prop
abbrev RsK := List D → Cells → Prop
abbrev BK := Bool → Cells → Prop
def RQ (K : PySem.W.Frag) (G : Hp) (R : RK) (Q : VK) : Prop := ∀ v d cs' G' H', Same G G' → Own K G' H' cs' → Rep K G' v d → R d cs' → Q v H'
def BQ (K : PySem.W.Frag) (G : Hp) (R : BK) (Q : Bool → Hp → Prop) : Prop := ∀ b cs' G' H', Same G G' → Own K G' H' cs' → R b cs' → Q b H'
def AQ (K : PySem.W.Frag) (G : Hp) (R : RsK) (Q : List V → Hp → Prop) : Prop := ∀ vs ds cs' G' H', Same G G' → Own K G' H' cs' → Reps K G' vs ds → R ds cs' → Q vs H'
/-- an expression, a test, arguments: from data and cells to data and cells -/
def Er (K : PySem.W.Frag) (t : TE) (Δ : Env) (cs : Cells) (R : RK) : Prop := ∀ σ G H Q, RepE K G σ Δ → Own K G H cs → RQ K G R Q → t σ H Q
def Et (K : PySem.W.Frag) (t : TT) (Δ : Env) (cs : Cells) (R : BK) : Prop := ∀ σ G H Q, RepE K G σ Δ → Own K G H cs → BQ K G R Q → t σ H Q
def Ea (K : PySem.W.Frag) (t : TA) (Δ : Env) (cs : Cells) (R : RsK) : Prop := ∀ σ G H Q, RepE K G σ Δ → Own K G H cs → AQ K G R Q → t σ H Q
/-- operations by values -/
def O2 (K : PySem.W.Frag) (r : R2) (x y : D) (cs : Cells) (R : RK) : Prop := ∀ v w G H Q, Rep K G v x → Rep K G w y → Own K G H cs → RQ K G R Q → r v w H Q
def O1 (K : PySem.W.Frag) (r : V → Hp → VK → Prop) (x : D) (cs : Cells) (R : RK) : Prop := ∀ v G H Q, Rep K G v x → Own K G H cs → RQ K G R Q → r v H Q
def Oa (K : PySem.W.Frag) (r : List V → Hp → VK → Prop) (xs : List D) (cs : Cells) (R : RK) : Prop := ∀ vs G H Q, Reps K G vs xs → Own K G H cs → RQ K G R Q → r vs H Q

section
variable {K : PySem.W.Frag} {G G' H H' : Hp} {σ : L2.St} {Δ : Env} {cs : Cells} {R : RK} {ta tb tc te : TE} {d x y : D} {r : R2}
theorem RepE.mono (e : Same G G') (h : RepE K G σ Δ) : RepE K G' σ Δ := ⟨h.1, fun i d q => let ⟨v, a, b⟩ := h.2 i d q; ⟨v, a, b.mono e⟩⟩
theorem RepE.set {v : V} (h : RepE K G σ Δ) (r : Rep K G v d) (i : Nat) : RepE K G (σ.set i (some v)) (Δ.set i (some d)) := by
  refine ⟨by rw [List.length_set, List.length_set, h.1], fun j e q => ?_⟩
  by_cases hj : j = i
  · subst hj
    by_cases hl : j < Δ.length
    · rw [List.getElem?_set_self hl] at q
      cases q
      exact ⟨v, List.getElem?_set_self (by rw [h.1]; exact hl), r⟩
    · rw [List.getElem?_eq_none (by rw [List.length_set]; omega)] at q
      cases q
  · rw [List.getElem?_set_ne (Ne.symm hj)] at q
    obtain ⟨u, a, b⟩ := h.2 j e q
    exact ⟨u, by rw [List.getElem?_set_ne (Ne.symm hj)]; exact a, b⟩
theorem RQ.mono {Q : VK} (e : Same G G') (h : RQ K G R Q) : RQ K G' R Q := fun v d cs' G2 H2 a b c q => h v d cs' G2 H2 (e.trans a) b c q
theorem BQ.mono {R : BK} {Q : Bool → Hp → Prop} (e : Same G G') (h : BQ K G R Q) : BQ K G' R Q := fun v cs' G2 H2 a b q => h v cs' G2 H2 (e.trans a) b q
theorem AQ.mono {R : RsK} {Q : List V → Hp → Prop} (e : Same G G') (h : AQ K G R Q) : AQ K G' R Q := fun v d cs' G2 H2 a b c q => h v d cs' G2 H2 (e.trans a) b c q
/-- the answer now, no change -/
theorem RQ.now {Q : VK} {v : V} (q : RQ K G R Q) (I : Own K G H cs) (r : Rep K G v d) (h : R d cs) : Q v H := q v d cs G H (Same.refl G) I r h

def isNonD : D → Bool
  | .raw .non => true
  | _ => false
theorem isNonD_of {v : V} (r : Rep K G v d) : decide (v = .non) = isNonD d := by
  cases r with
  | raw v => cases v <;> rfl
  | tup => exact decide_eq_false fun z => nomatch z
  | lst => exact decide_eq_false fun z => nomatch z
  | ro => exact decide_eq_false fun z => nomatch z
  | obj => exact decide_eq_false fun z => nomatch z
  | exc => exact decide_eq_false fun z => nomatch z
/-! ### expressions -/
theorem er_var {i : Nat} (h : Δ[i]? = some (some d)) (k : R d cs) : Er K (tVar i) Δ cs R := fun σ G H Q E I q => by
  obtain ⟨v, a, b⟩ := E.2 i d h
  exact ⟨v, a, q.now I b k⟩
theorem er_c {v : V} (k : R (.raw v) cs) : Er K (tC v) Δ cs R := fun σ G H Q E I q => q.now I (.raw v) k
/-- a list or tuple of the written part, as a value -/
theorem er_cD {v : V} (hr : ∀ G, Rep K G v d) (k : R d cs) : Er K (tC v) Δ cs R := fun σ G H Q E I q => q.now I (hr G) k
theorem er_op (h : Er K ta Δ cs fun x cs1 => Er K tb Δ cs1 fun y cs2 => O2 K r x y cs2 R) : Er K (tOp r ta tb) Δ cs R := fun σ G H Q E I q =>
  h σ G H _ E I fun v x cs1 G1 H1 e1 I1 r1 h1 => h1 σ G1 H1 _ (E.mono e1) I1 fun w y cs2 G2 H2 e2 I2 r2 h2 => h2 v w G2 H2 Q (r1.mono e2) r2 I2 (q.mono (e1.trans e2))
theorem er_un {r : V → Hp → VK → Prop} (h : Er K ta Δ cs fun x cs1 => O1 K r x cs1 R) : Er K (tUn r ta) Δ cs R := fun σ G H Q E I q =>
  h σ G H _ E I fun v x cs1 G1 H1 e1 I1 r1 h1 => h1 v G1 H1 Q r1 I1 (q.mono e1)
theorem er_cb {r : List V → Hp → VK → Prop} {t : TA} (h : Ea K t Δ cs fun xs cs1 => Oa K r xs cs1 R) : Er K (tCB r t) Δ cs R := fun σ G H Q E I q =>
  h σ G H _ E I fun vs xs cs1 G1 H1 e1 I1 r1 h1 => h1 vs G1 H1 Q r1 I1 (q.mono e1)
theorem ea_nil {R : RsK} (k : R [] cs) : Ea K tNil Δ cs R := fun σ G H Q E I q => q [] [] cs G H (Same.refl G) I .nil k
theorem ea_cons {tr : TA} {R : RsK} (h : Er K te Δ cs fun x cs1 => Ea K tr Δ cs1 fun xs cs2 => R (x :: xs) cs2) : Ea K (tCons te tr) Δ cs R := fun σ G H Q E I q =>
  h σ G H _ E I fun v x cs1 G1 H1 e1 I1 r1 h1 => h1 σ G1 H1 _ (E.mono e1) I1 fun ws xs cs2 G2 H2 e2 I2 r2 h2 => q (v :: ws) (x :: xs) cs2 G2 H2 (e1.trans e2) I2 (.cons (r1.mono e2) r2) h2
theorem er_if {t : TT} (h : Et K t Δ cs fun b cs1 => (b = true → Er K ta Δ cs1 R) ∧ (b = false → Er K tb Δ cs1 R)) : Er K (tIf t ta tb) Δ cs R := fun σ G H Q E I q =>
  h σ G H _ E I fun b cs1 G1 H1 e1 I1 h1 => by
    cases b with
    | true => exact h1.1 rfl σ G1 H1 Q (E.mono e1) I1 (q.mono e1)
    | false => exact h1.2 rfl σ G1 H1 Q (E.mono e1) I1 (q.mono e1)
theorem er_andV (h : Er K ta Δ cs fun x cs1 => ∃ b, x = .bl b ∧ (b = true → Er K tb Δ cs1 R) ∧ (b = false → R (.bl false) cs1)) : Er K (tAndV ta tb) Δ cs R := fun σ G H Q E I q =>
  h σ G H _ E I fun v x cs1 G1 H1 e1 I1 r1 ⟨b, e, h1, h2⟩ => by
    subst e
    refine ⟨b, r1.raw_inv, ?_⟩
    cases b with
    | true => exact h1 rfl σ G1 H1 Q (E.mono e1) I1 (q.mono e1)
    | false => exact (q.mono e1).now I1 (.raw _) (h2 rfl)
theorem er_orV (h : Er K ta Δ cs fun x cs1 => ∃ b, x = .bl b ∧ (b = true → R (.bl true) cs1) ∧ (b = false → Er K tb Δ cs1 R)) : Er K (tOrV ta tb) Δ cs R := fun σ G H Q E I q =>
  h σ G H _ E I fun v x cs1 G1 H1 e1 I1 r1 ⟨b, e, h1, h2⟩ => by
    subst e
    refine ⟨b, r1.raw_inv, ?_⟩
    cases b with
    | true => exact (q.mono e1).now I1 (.raw _) (h1 rfl)
    | false => exact h2 rfl σ G1 H1 Q (E.mono e1) I1 (q.mono e1)
theorem er_notV (h : Er K ta Δ cs fun x cs1 => ∃ b, x = .bl b ∧ R (.bl (!b)) cs1) : Er K (tNotV ta) Δ cs R := fun σ G H Q E I q =>
  h σ G H _ E I fun v x cs1 G1 H1 e1 I1 r1 ⟨b, e, h1⟩ => by
    subst e
    exact ⟨b, r1.raw_inv, (q.mono e1).now I1 (.raw _) h1⟩
theorem er_isN (h : Er K ta Δ cs fun x cs1 => R (.bl (isNonD x)) cs1) : Er K (tIsN ta) Δ cs R := fun σ G H Q E I q =>
  h σ G H _ E I fun v x cs1 G1 H1 e1 I1 r1 h1 => by
    refine (q.mono e1).now I1 (.raw _) ?_
    rw [isNonD_of r1]
    exact h1
theorem er_notN (h : Er K ta Δ cs fun x cs1 => R (.bl (!isNonD x)) cs1) : Er K (tNotN ta) Δ cs R := fun σ G H Q E I q =>
  h σ G H _ E I fun v x cs1 G1 H1 e1 I1 r1 h1 => by
    refine (q.mono e1).now I1 (.raw _) ?_
    rw [isNonD_of r1]
    exact h1
/-! ### tests -/
theorem et_test {R : BK} (h : Er K te Δ cs fun x cs1 => ∃ b, x = .bl b ∧ R b cs1) : Et K (tTest te) Δ cs R := fun σ G H Q E I q =>
  h σ G H _ E I fun v x cs1 G1 H1 e1 I1 r1 ⟨b, e, h1⟩ => by
    subst e
    exact ⟨b, r1.raw_inv, q b cs1 G1 H1 e1 I1 h1⟩
theorem et_B {R : BK} (h : Er K te Δ cs fun x cs1 => ∃ b, x = .bl b ∧ R b cs1) : Et K (tB te) Δ cs R := fun σ G H Q E I q =>
  h σ G H _ E I fun v x cs1 G1 H1 e1 I1 r1 ⟨b, e, h1⟩ => by
    subst e
    exact ⟨b, r1.raw_inv, q b cs1 G1 H1 e1 I1 h1⟩
theorem et_and {t u : TT} {R : BK} (h : Et K t Δ cs fun b cs1 => (b = true → Et K u Δ cs1 R) ∧ (b = false → R false cs1)) : Et K (tAnd t u) Δ cs R := fun σ G H Q E I q =>
  h σ G H _ E I fun b cs1 G1 H1 e1 I1 h1 => by
    cases b with
    | true => exact h1.1 rfl σ G1 H1 Q (E.mono e1) I1 (q.mono e1)
    | false => exact q false cs1 G1 H1 e1 I1 (h1.2 rfl)
theorem et_or {t u : TT} {R : BK} (h : Et K t Δ cs fun b cs1 => (b = true → R true cs1) ∧ (b = false → Et K u Δ cs1 R)) : Et K (tOr t u) Δ cs R := fun σ G H Q E I q =>
  h σ G H _ E I fun b cs1 G1 H1 e1 I1 h1 => by
    cases b with
    | true => exact q true cs1 G1 H1 e1 I1 (h1.1 rfl)
    | false => exact h1.2 rfl σ G1 H1 Q (E.mono e1) I1 (q.mono e1)
theorem et_not {t : TT} {R : BK} (h : Et K t Δ cs fun b cs1 => R (!b) cs1) : Et K (tNot t) Δ cs R := fun σ G H Q E I q =>
  h σ G H _ E I fun b cs1 G1 H1 e1 I1 h1 => q (!b) cs1 G1 H1 e1 I1 h1
theorem et_yes {R : BK} (h : R true cs) : Et K tYes Δ cs R := fun σ G H Q E I q => q true cs G H (Same.refl G) I h
/-! ### new tuples, new lists (owned or not) -/
theorem er_tup {t : TA} (h : Ea K t Δ cs fun ds cs1 => ds.length ≤ sizeLine ∧ R (.tup ds) cs1) : Er K (tTup t) Δ cs R := fun σ G H Q E I q =>
  h σ G H _ E I fun vs ds cs1 G1 H1 e1 I1 r1 ⟨hl, h1⟩ => ⟨by rw [r1.length]; exact hl, fun p n => by
    have n' := I1.same.free n
    exact q (.ref p) (.tup ds) cs1 _ _ (e1.trans (same_new n')) (I1.fresh n) (.tup (.inl (.inl upd_same)) (r1.mono (same_new n'))) h1⟩
/-- .. a list that will not change -/
theorem er_lst {t : TA} (h : Ea K t Δ cs fun ds cs1 => ds.length ≤ sizeLine ∧ R (.lst ds) cs1) : Er K (tLst t) Δ cs R := fun σ G H Q E I q =>
  h σ G H _ E I fun vs ds cs1 G1 H1 e1 I1 r1 ⟨hl, h1⟩ => ⟨by rw [r1.length]; exact hl, fun p n => by
    have n' := I1.same.free n
    exact q (.ref p) (.lst ds) cs1 _ _ (e1.trans (same_new n')) (I1.fresh n) (.lst upd_same (r1.mono (same_new n'))) h1⟩
/-- .. a list that will change: a cell -/
theorem er_lstC {t : TA} (h : Ea K t Δ cs fun ds cs1 => ds.length ≤ sizeLine ∧ ∀ p, R (.raw (.ref p)) (cs1 ++ [(p, .lst ds)])) : Er K (tLst t) Δ cs R := fun σ G H Q E I q =>
  h σ G H _ E I fun vs ds cs1 G1 H1 e1 I1 r1 ⟨hl, h1⟩ => ⟨by rw [r1.length]; exact hl, fun p n => by
    have n' := I1.same.free n
    exact q (.ref p) _ _ _ _ e1 (I1.snoc (co := .lst ds) n ⟨n', vs, upd_same, r1⟩) (.raw _) (h1 p)⟩
theorem er_dnewC (h : ∀ p, R (.raw (.ref p)) (cs ++ [(p, .dct [])])) : Er K tDNewK Δ cs R := fun σ G H Q E I q => fun p n =>
  q (.ref p) _ _ _ _ (Same.refl G) (I.snoc (co := .dct []) n ⟨I.same.free n, [], upd_same, rfl, .nil⟩) (.raw _) (h p)
/-- a value answered by this: what is data stays so -/
theorem er_mono {R' : RK} (h : Er K te Δ cs R) (k : ∀ d cs, R d cs → R' d cs) : Er K te Δ cs R' := fun σ G H Q E I q => h σ G H Q E I fun v d cs1 G1 H1 e I1 r1 h1 => q v d cs1 G1 H1 e I1 r1 (k d cs1 h1)
theorem et_mono {t : TT} {R R' : BK} (h : Et K t Δ cs R) (k : ∀ b cs, R b cs → R' b cs) : Et K t Δ cs R' := fun σ G H Q E I q => h σ G H Q E I fun b cs1 G1 H1 e I1 h1 => q b cs1 G1 H1 e I1 (k b cs1 h1)

/-! ### statements -/
structure AE where
  nx : Env → Cells → Prop
  rt : RK
  bk : Env → Cells → Prop := fun _ _ => False
  ct : Env → Cells → Prop := fun _ _ => False
  iv : Hp → Prop := fun _ => True
def EQ (K : PySem.W.Frag) (G : Hp) (N : Env → Cells → Prop) (Q : L2.St → Hp → Prop) : Prop := ∀ σ' Δ' cs' G' H', Same G G' → RepE K G' σ' Δ' → Own K G' H' cs' → N Δ' cs' → Q σ' H'
structure DQ (K : PySem.W.Frag) (G : Hp) (A : AE) (D : Ends) : Prop where
  nx : EQ K G A.nx D.nx
  rt : RQ K G A.rt D.rt
  bk : EQ K G A.bk D.bk
  ct : EQ K G A.ct D.ct
  iv : ∀ G', Same G G' → A.iv G'
def Xs (K : PySem.W.Frag) (t : TS) (A : AE) (Δ : Env) (cs : Cells) : Prop := ∀ σ G H D, RepE K G σ Δ → Own K G H cs → DQ K G A D → t D σ H
end
section
variable {K : PySem.W.Frag} {G G' H H' : Hp} {σ : L2.St} {Δ : Env} {cs : Cells} {A : AE} {ta tb tc te : TE} {d x y : D} {t u : TS}
theorem EQ.mono {N : Env → Cells → Prop} {Q : L2.St → Hp → Prop} (e : Same G G') (h : EQ K G N Q) : EQ K G' N Q := fun σ' Δ' cs' G2 H2 a b c q => h σ' Δ' cs' G2 H2 (e.trans a) b c q
theorem DQ.mono {D : Ends} (e : Same G G') (h : DQ K G A D) : DQ K G' A D := ⟨h.nx.mono e, h.rt.mono e, h.bk.mono e, h.ct.mono e, fun G2 e2 => h.iv G2 (e.trans e2)⟩
theorem xs_next (h : A.nx Δ cs) : Xs K tNext A Δ cs := fun σ G H D E I q => q.nx σ Δ cs G H (Same.refl G) E I h
theorem xs_seq (h : Xs K t { A with nx := fun Δ cs => Xs K u A Δ cs } Δ cs) : Xs K (tSeq t u) A Δ cs := fun σ G H D E I q =>
  h σ G H _ E I ⟨fun σ' Δ' cs' G' H' e E' I' h' => h' σ' G' H' D E' I' (q.mono e), q.rt, q.bk, q.ct, q.iv⟩
theorem xs_brk (h : A.bk Δ cs) : Xs K tBreak A Δ cs := fun σ G H D E I q => q.bk σ Δ cs G H (Same.refl G) E I h
theorem xs_cont (h : A.ct Δ cs) : Xs K tCont A Δ cs := fun σ G H D E I q => q.ct σ Δ cs G H (Same.refl G) E I h
theorem xs_drop (h : Er K te Δ cs fun _ cs1 => A.nx Δ cs1) : Xs K (tDrop te) A Δ cs := fun σ G H D E I q =>
  h σ G H _ E I fun v x cs1 G1 H1 e1 I1 r1 h1 => q.nx σ Δ cs1 G1 H1 e1 (E.mono e1) I1 h1
theorem xs_ret (h : Er K te Δ cs A.rt) : Xs K (tRet te) A Δ cs := fun σ G H D E I q => h σ G H _ E I q.rt
theorem xs_retN (h : A.rt .non cs) : Xs K tRetN A Δ cs := fun σ G H D E I q => q.rt.now I (.raw .non) h
theorem xs_if {c : TT} (h : Et K c Δ cs fun b cs1 => (b = true → Xs K t A Δ cs1) ∧ (b = false → Xs K u A Δ cs1)) : Xs K (tIfS c t u) A Δ cs := fun σ G H D E I q =>
  h σ G H _ E I fun b cs1 G1 H1 e1 I1 h1 => by
    cases b with
    | true => exact h1.1 rfl σ G1 H1 D (E.mono e1) I1 (q.mono e1)
    | false => exact h1.2 rfl σ G1 H1 D (E.mono e1) I1 (q.mono e1)
theorem xs_asg {i : Nat} (h : Er K te Δ cs fun d cs1 => A.nx (Δ.set i (some d)) cs1) : Xs K (tAsg te (gName i)) A Δ cs := fun σ G H D E I q =>
  h σ G H _ E I fun v d cs1 G1 H1 e1 I1 r1 h1 => q.nx _ _ cs1 G1 H1 e1 ((E.mono e1).set r1 i) I1 h1
/-! ### targets -/
def Gg (K : PySem.W.Frag) (g : TG) (d : D) (Δ : Env) (cs : Cells) (N : Env → Cells → Prop) : Prop := ∀ v σ G H Q, RepE K G σ Δ → Own K G H cs → Rep K G v d → EQ K G N Q → g v σ H Q
def Ggs (K : PySem.W.Frag) (g : TGs) (ds : List D) (Δ : Env) (cs : Cells) (N : Env → Cells → Prop) : Prop := ∀ vs σ G H Q, RepE K G σ Δ → Own K G H cs → Reps K G vs ds → EQ K G N Q → g vs σ H Q
theorem gg_name {i : Nat} {N : Env → Cells → Prop} (h : N (Δ.set i (some d)) cs) : Gg K (gName i) d Δ cs N := fun v σ G H Q E I r q => q _ _ cs G H (Same.refl G) (E.set r i) I h
theorem ggs_nil {N : Env → Cells → Prop} (h : N Δ cs) : Ggs K gNil [] Δ cs N := fun vs σ G H Q E I r q => ⟨by cases r; rfl, q σ Δ cs G H (Same.refl G) E I h⟩
theorem ggs_cons {g : TG} {gs : TGs} {ds : List D} {N : Env → Cells → Prop} (h : Gg K g d Δ cs fun Δ' cs' => Ggs K gs ds Δ' cs' N) : Ggs K (gCons g gs) (d :: ds) Δ cs N := fun vs σ G H Q E I r q => by
  cases r with
  | cons r rs =>
    rename_i v vs
    exact ⟨v, vs, rfl, h v σ G H _ E I r fun σ' Δ' cs' G' H' e E' I' h' => h' vs σ' G' H' Q E' I' (rs.mono e) (q.mono e)⟩
theorem gg_tup {n : Nat} {gs : TGs} {ds : List D} {N : Env → Cells → Prop} (hl : ds.length = n) (h : Ggs K gs ds Δ cs N) : Gg K (gTup K n gs) (.tup ds) Δ cs N := fun v σ G H Q E I r q => by
  obtain ⟨p, vs, rfl, hp, rs⟩ := r.tup_inv
  exact ⟨p, vs, rfl, seqT I.same hp, by rw [rs.length]; exact hl, h vs σ G H Q E I rs q⟩
theorem xs_asgG {g : TG} (h : Er K te Δ cs fun d cs1 => Gg K g d Δ cs1 A.nx) : Xs K (tAsg te g) A Δ cs := fun σ G H D E I q =>
  h σ G H _ E I fun v d cs1 G1 H1 e1 I1 r1 h1 => h1 v σ G1 H1 _ (E.mono e1) I1 r1 (q.nx.mono e1)

theorem xs_never : False → Xs K tNever A Δ cs := fun h => h.elim
/-! ### what is walked -/
structure WalkD (K : PySem.W.Frag) (G : Hp) (J : It) (ds : List D) : Prop where
  goes : ∀ i H, i < ds.length → Same G H → J.go i H
  stops : ∀ H, Same G H → J.stop ds.length H
  yields : ∀ (i : Nat) H x H' G2 cs d, ds[i]? = some d → Same G G2 → Own K G2 H cs → J.yld i H x H' → ∃ G3, Same G2 G3 ∧ Own K G3 H' cs ∧ Rep K G3 x d
def Ei (K : PySem.W.Frag) (wi : TI) (Δ : Env) (cs : Cells) (R : RsK) : Prop := ∀ σ G H Rr, RepE K G σ Δ → Own K G H cs → (∀ J ds cs' G' H', Same G G' → Own K G' H' cs' → WalkD K G' J ds → R ds cs' → Rr J H') → wi σ H Rr
theorem WalkD.mono {J : It} {ds : List D} (e : Same G G') (w : WalkD K G J ds) : WalkD K G' J ds :=
  ⟨fun i H hi s => w.goes i H hi (e.trans s), fun H s => w.stops H (e.trans s), fun i H x H' G2 cs d h1 h2 => w.yields i H x H' G2 cs d h1 (e.trans h2)⟩
theorem xs_for {wi : TI} {g : TG} (h : Ei K wi Δ cs fun ds cs1 => ∃ Pv : Nat → Env → Cells → Prop, Pv 0 Δ cs1 ∧
    (∀ i d Δ cs, ds[i]? = some d → Pv i Δ cs → Gg K g d Δ cs fun Δ' cs' => Xs K t { A with nx := Pv (i + 1), ct := Pv (i + 1), bk := A.nx } Δ' cs') ∧ ∀ Δ cs, Pv ds.length Δ cs → A.nx Δ cs) : Xs K (tFor wi g t) A Δ cs := fun σ G H D E I q =>
  h σ G H _ E I fun J ds cs1 G1 H1 e1 I1 w ⟨Pv, h0, hs, hd⟩ => by
    refine ⟨fun i m σ' H' => m = ds.length - i ∧ i ≤ ds.length ∧ ∃ Δ' cs' G', Same G1 G' ∧ RepE K G' σ' Δ' ∧ Own K G' H' cs' ∧ Pv i Δ' cs', ⟨ds.length, by omega, Nat.zero_le _, Δ, cs1, G1, Same.refl G1, E.mono e1, I1, h0⟩, ?_⟩
    rintro i m σ' H' ⟨rfl, hi, Δ', cs', G', e', E', I', h'⟩
    by_cases hlt : i < ds.length
    · refine .inr ⟨w.goes i H' hlt (e'.trans I'.same), fun σ2 H2 => ∃ Δ' cs' G', Same G1 G' ∧ RepE K G' σ2 Δ' ∧ Own K G' H2 cs' ∧ Pv (i + 1) Δ' cs', fun σ2 H2 n => ⟨ds.length - (i + 1), by omega, rfl, hlt, n⟩, fun x H2 y => ?_⟩
      obtain ⟨G3, e3, I3, r3⟩ := w.yields i H' x H2 G' cs' _ (List.getElem?_eq_getElem hlt) e' I' y
      refine hs i _ Δ' cs' (List.getElem?_eq_getElem hlt) h' x σ' G3 H2 _ (E'.mono e3) I3 r3 fun σ4 Δ4 cs4 G4 H4 e4 E4 I4 h4 => ?_
      have e04 := (e'.trans e3).trans e4
      exact h4 σ4 G4 H4 _ E4 I4 ⟨fun σ5 Δ5 cs5 G5 H5 e5 E5 I5 h5 => ⟨Δ5, cs5, G5, e04.trans e5, E5, I5, h5⟩, q.rt.mono (e1.trans e04), q.nx.mono (e1.trans e04), fun σ5 Δ5 cs5 G5 H5 e5 E5 I5 h5 => ⟨Δ5, cs5, G5, e04.trans e5, E5, I5, h5⟩, fun G9 e9 => q.iv G9 ((e1.trans e04).trans e9)⟩
    · have e : i = ds.length := by omega
      subst e
      exact .inl ⟨w.stops H' (e'.trans I'.same), q.nx σ' Δ' cs' G' H' (e1.trans e') E' I' (hd Δ' cs' h')⟩
theorem ei_list {R : RsK} (h : Er K te Δ cs fun d cs1 => ∃ ds, d = .lst ds ∧ R ds cs1) : Ei K (iList K te) Δ cs R := fun σ G H Rr E I q =>
  h σ G H _ E I fun v d cs1 G1 H1 e1 I1 r1 ⟨ds, ed, h1⟩ => by
    subst ed
    obtain ⟨p, vs, rfl, hp, rs⟩ := r1.lst_inv
    refine ⟨p, rfl, ⟨vs, I1.same.seq hp⟩, q _ ds cs1 G1 H1 e1 I1 ⟨fun i H' hi s => ?_, fun H' s => ⟨vs, s.seq hp, by rw [rs.length]; omega⟩, fun i H' x H2 G2 cs2 d hd s I2 y => ?_⟩ h1⟩
    · have hi' : i < vs.length := by rw [rs.length]; exact hi
      exact ⟨vs, vs[i], s.seq hp, List.getElem?_eq_getElem hi'⟩
    · obtain ⟨rfl, y⟩ := y
      obtain ⟨v, hv, rv⟩ := rs.get hd
      have := y vs ((s.trans I2.same).seq hp)
      rw [hv] at this
      cases this
      exact ⟨G2, Same.refl G2, I2, rv.mono s⟩
theorem ei_tup {R : RsK} (h : Er K te Δ cs fun d cs1 => ∃ ds, d = .tup ds ∧ R ds cs1) : Ei K (iTup K te) Δ cs R := fun σ G H Rr E I q =>
  h σ G H _ E I fun v d cs1 G1 H1 e1 I1 r1 ⟨ds, ed, h1⟩ => by
    subst ed
    obtain ⟨p, vs, rfl, hp, rs⟩ := r1.tup_inv
    refine ⟨p, rfl, ⟨vs, seqT I1.same hp⟩, q _ ds cs1 G1 H1 e1 I1 ⟨fun i H' hi s => ?_, fun H' s => ⟨vs, seqT s hp, by rw [rs.length]; omega⟩, fun i H' x H2 G2 cs2 d hd s I2 y => ?_⟩ h1⟩
    · have hi' : i < vs.length := by rw [rs.length]; exact hi
      exact ⟨vs, vs[i], seqT s hp, List.getElem?_eq_getElem hi'⟩
    · obtain ⟨rfl, y⟩ := y
      obtain ⟨v, hv, rv⟩ := rs.get hd
      have := y vs (seqT (s.trans I2.same) hp)
      rw [hv] at this
      cases this
      exact ⟨G2, Same.refl G2, I2, rv.mono s⟩
def rangeD (n : Nat) : List D := (List.range n).map fun (i : Nat) => D.int i
theorem rangeD_len (n : Nat) : (rangeD n).length = n := by simp [rangeD]
theorem rangeD_get {n i : Nat} {d : D} (h : (rangeD n)[i]? = some d) : i < n ∧ d = .int i := by
  unfold rangeD at h
  rw [List.getElem?_map] at h
  cases e : (List.range n)[i]? with
  | none => rw [e] at h; cases h
  | some k =>
    rw [e] at h
    obtain ⟨h1, h2⟩ := List.getElem?_eq_some_iff.mp e
    rw [List.getElem_range] at h2
    rw [List.length_range] at h1
    subst h2
    exact ⟨h1, (Option.some.inj h).symm⟩
theorem ei_range {ta : TA} {R : RsK} (h : Ea K ta Δ cs fun xs cs1 => ∃ n : Int, xs = [.int n] ∧ n < 2 ^ 62 ∧ -(2 ^ 62) ≤ n ∧ R (rangeD n.toNat) cs1) : Ei K (iRng1 ta) Δ cs R := fun σ G H Rr E I q =>
  h σ G H _ E I fun vs ds cs1 G1 H1 e1 I1 r1 ⟨n, ed, hn, hm, h1⟩ => by
    subst ed
    have ev : vs = [V.int n] := Reps.raws (ws := [V.int n]) r1
    refine ⟨n, ev, hm, hn, q _ _ cs1 G1 H1 e1 I1 ⟨fun i H' hi s => ?_, fun H' s => ?_, fun i H' x H2 G2 cs2 d hd s I2 y => ?_⟩ h1⟩
    · rw [rangeD_len] at hi
      exact hi
    · rw [rangeD_len]
      exact Nat.le_refl _
    · obtain ⟨rfl, rfl⟩ := y
      obtain ⟨_, rfl⟩ := rangeD_get hd
      have e0 : (0 : Int) + (i : Int) = (i : Int) := Int.zero_add _
      rw [e0]
      exact ⟨G2, Same.refl G2, I2, .raw _⟩
def signsD (z : Str) : List D := z.cps.toList.map fun c => D.str ⟨#[c]⟩
theorem ei_str {R : RsK} (h : Er K te Δ cs fun d cs1 => ∃ z, d = .str z ∧ R (signsD z) cs1) : Ei K (iStr te) Δ cs R := fun σ G H Rr E I q =>
  h σ G H _ E I fun v d cs1 G1 H1 e1 I1 r1 ⟨z, ed, h1⟩ => by
    subst ed
    have hl : (signsD z).length = z.cps.size := by simp [signsD]
    refine ⟨z, r1.raw_inv, q _ _ cs1 G1 H1 e1 I1 ⟨fun i H' hi s => ?_, fun H' s => ?_, fun i H' x H2 G2 cs2 d hd s I2 y => ?_⟩ h1⟩
    · rw [hl] at hi
      exact hi
    · rw [hl]
      exact Nat.le_refl _
    · obtain ⟨rfl, c, hc, rfl⟩ := y
      unfold signsD at hd
      rw [List.getElem?_map, Array.getElem?_toList, hc] at hd
      cases hd
      exact ⟨G2, Same.refl G2, I2, .raw _⟩
def enumD (ds : List D) : List D := ds.mapIdx fun i d => D.tup [.int (i : Nat), d]
theorem ei_enum {ta : TA} {R : RsK} (h : Ea K ta Δ cs fun xs cs1 => ∃ ds, xs = [.lst ds] ∧ R (enumD ds) cs1) : Ei K (iEnum K ta) Δ cs R := fun σ G H Rr E I q =>
  h σ G H _ E I fun ws xs cs1 G1 H1 e1 I1 r1 ⟨ds, ed, h1⟩ => by
    subst ed
    cases r1 with
    | cons ra rb =>
      cases rb
      obtain ⟨p, vs, rfl, hp, rs⟩ := ra.lst_inv
      have hl : (enumD ds).length = vs.length := by simp [enumD, rs.length]
      refine ⟨p, vs, rfl, I1.same.seq hp, q _ _ cs1 G1 H1 e1 I1 ⟨fun i H' hi s => ?_, fun H' s => ⟨vs, s.seq hp, by rw [hl]; exact Nat.le_refl _⟩, fun i H' x H2 G2 cs2 d hd s I2 y => ?_⟩ h1⟩
      · have hi' : i < vs.length := by rw [← hl]; exact hi
        exact ⟨vs, vs[i], s.seq hp, List.getElem?_eq_getElem hi'⟩
      · obtain ⟨T, x1, rfl, nT, rfl, y⟩ := y
        have hy := y vs ((s.trans I2.same).seq hp)
        obtain ⟨d1, hd1, rd1⟩ := rs.getV hy
        unfold enumD at hd
        rw [List.getElem?_mapIdx, hd1] at hd
        cases hd
        have sn := same_new (o := .tup [V.int (i : Nat), x1]) (I2.same.free nT)
        exact ⟨_, sn, I2.fresh nT, .tup (.inl (.inl upd_same)) (.cons (.raw _) (.cons ((rd1.mono s).mono sn) .nil))⟩
/-! ### comprehensions -/
def wipeE (Δ : Env) : List Nat → Env
  | [] => Δ
  | i :: r => (wipeE Δ r).set i none
theorem RepE.none (h : RepE K G σ Δ) (i : Nat) : RepE K G (σ.set i none) (Δ.set i none) := by
  refine ⟨by rw [List.length_set, List.length_set, h.1], fun j e q => ?_⟩
  by_cases hj : j = i
  · subst hj
    by_cases hl : j < Δ.length
    · rw [List.getElem?_set_self hl] at q
      cases q
    · rw [List.getElem?_eq_none (by rw [List.length_set]; omega)] at q
      cases q
  · rw [List.getElem?_set_ne (Ne.symm hj)] at q
    obtain ⟨u, a, b⟩ := h.2 j e q
    exact ⟨u, by rw [List.getElem?_set_ne (Ne.symm hj)]; exact a, b⟩
theorem RepE.wipe : ∀ {vs : List Nat} {σ : L2.St} {Δ : Env}, RepE K G σ Δ → RepE K G (L2.wipe σ vs) (wipeE Δ vs)
  | [], _, _, h => h
  | i :: r, _, _, h => (RepE.wipe (vs := r) h).none i
/-- the target stores in the comprehension's own slots only -/
def TgtIn (g : TG) (vs : List Nat) : Prop := ∀ (v : V) (σ0 σ : L2.St) (H : Hp) (Q Q' : L2.St → Hp → Prop), L2.wipe σ vs = σ0 → (∀ σ2 H2, L2.wipe σ2 vs = σ0 → Q σ2 H2 → Q' σ2 H2) → g v σ H Q → g v σ H Q'
def TgtsIn (g : TGs) (vs : List Nat) : Prop := ∀ (v : List V) (σ0 σ : L2.St) (H : Hp) (Q Q' : L2.St → Hp → Prop), L2.wipe σ vs = σ0 → (∀ σ2 H2, L2.wipe σ2 vs = σ0 → Q σ2 H2 → Q' σ2 H2) → g v σ H Q → g v σ H Q'
theorem wipe_set {x : Option V} : ∀ {vs : List Nat} {σ : L2.St} {j : Nat}, j ∈ vs → L2.wipe (σ.set j x) vs = L2.wipe σ vs
  | i :: r, σ, j, h => by
    show (L2.wipe (σ.set j x) r).set i none = (L2.wipe σ r).set i none
    by_cases hr : j ∈ r
    · rw [wipe_set hr]
    · have e : j = i := by
        rcases List.mem_cons.mp h with e | e
        · exact e
        · exact absurd e hr
      subst e
      have key : ∀ {r : List Nat} {σ : L2.St}, j ∉ r → L2.wipe (σ.set j x) r = (L2.wipe σ r).set j x := by
        intro r
        induction r with
        | nil => intro σ _; rfl
        | cons k r ih =>
          intro σ hk
          show (L2.wipe (σ.set j x) r).set k none = ((L2.wipe σ r).set k none).set j x
          rw [ih (fun z => hk (List.mem_cons_of_mem _ z)), List.set_comm]
          exact fun z => hk (by rw [z]; exact List.mem_cons_self ..)
      rw [key hr, List.set_set]
theorem wipe_wipe (σ : L2.St) : ∀ {vs : List Nat}, L2.wipe (L2.wipe σ vs) vs = L2.wipe σ vs := by
  have key : ∀ (vs ws : List Nat), (∀ i ∈ vs, i ∈ ws) → L2.wipe (L2.wipe σ vs) ws = L2.wipe σ ws := by
    intro vs
    induction vs with
    | nil => intro ws _; rfl
    | cons i r ih =>
      intro ws h
      show L2.wipe ((L2.wipe σ r).set i none) ws = _
      rw [wipe_set (h i (List.mem_cons_self ..)), ih ws fun k hk => h k (List.mem_cons_of_mem _ hk)]
  intro vs
  exact key vs vs fun _ h => h
theorem tgt_name {j : Nat} {vs : List Nat} (h : j ∈ vs) : TgtIn (gName j) vs := fun v σ0 σ H Q Q' e k q => k _ _ (by rw [wipe_set h]; exact e) q
theorem tgts_nil {vs : List Nat} : TgtsIn gNil vs := fun v σ0 σ H Q Q' e k q => ⟨q.1, k _ _ e q.2⟩
theorem tgts_cons {g : TG} {gs : TGs} {vs : List Nat} (h1 : TgtIn g vs) (h2 : TgtsIn gs vs) : TgtsIn (gCons g gs) vs := fun v σ0 σ H Q Q' e k ⟨a, r, e2, q⟩ =>
  ⟨a, r, e2, h1 a σ0 σ H _ _ e (fun σ2 H2 e3 q2 => h2 r σ0 σ2 H2 Q Q' e3 k q2) q⟩
theorem tgt_tup {n : Nat} {gs : TGs} {vs : List Nat} (h : TgtsIn gs vs) : TgtIn (gTup K n gs) vs := fun v σ0 σ H Q Q' e k ⟨a, xs, e1, e2, e3, q⟩ => ⟨a, xs, e1, e2, e3, h xs σ0 σ H Q Q' e k q⟩
theorem er_lcC {wi : TI} {g : TG} {tt : TT} {vs : List Nat} {R : RK} (hw : TgtIn g vs) (h : Ei K wi Δ cs fun ds cs1 => ∃ Pv : Nat → List D → Cells → Prop, Pv 0 [] cs1 ∧
    (∀ i d acc cs2 p, ds[i]? = some d → Pv i acc cs2 → Gg K g d (wipeE Δ vs) (cs2 ++ [(p, .lst acc)]) fun Δ' cs3 => Et K tt Δ' cs3 fun b cs4 =>
      (b = true → Er K te Δ' cs4 fun y cs5 => ∃ cs6, cs5 = cs6 ++ [(p, .lst acc)] ∧ acc.length < sizeLine ∧ Pv (i + 1) (acc ++ [y]) cs6) ∧ (b = false → ∃ cs6, cs4 = cs6 ++ [(p, .lst acc)] ∧ Pv (i + 1) acc cs6)) ∧
    ∀ acc cs2, Pv ds.length acc cs2 → ∀ p, R (.raw (.ref p)) (cs2 ++ [(p, .lst acc)])) : Er K (tLc wi g tt te vs) Δ cs R := fun σ G H Q E I q =>
  h σ G H _ E I fun J ds cs1 G1 H1 e1 I1 w ⟨Pv, h0, hs, hd⟩ => fun Dl hD => by
    have st : ∀ {cs' : Cells} {G' H' : Hp} {acc : List D}, Own K G' H' (cs' ++ [(Dl, .lst acc)]) → (cs' ++ [(Dl, CO.lst acc)])[cs'.length]? = some (Dl, .lst acc) := fun _ => by simp
    refine ⟨fun i m H' => m = ds.length - i ∧ i ≤ ds.length ∧ ∃ acc cs' G', Same G1 G' ∧ Own K G' H' (cs' ++ [(Dl, .lst acc)]) ∧ Pv i acc cs', ⟨ds.length, by omega, Nat.zero_le _, [], cs1, G1, Same.refl G1, I1.snoc (co := .lst []) hD ⟨I1.same.free hD, [], upd_same, .nil⟩, h0⟩, ?_⟩
    rintro i m H' ⟨rfl, hi, acc, cs', G', e', I', h'⟩
    by_cases hlt : i < ds.length
    · refine .inr ⟨w.goes i H' hlt (e'.trans I'.same), fun H2 => ∃ acc cs' G', Same G1 G' ∧ Own K G' H2 (cs' ++ [(Dl, .lst acc)]) ∧ Pv (i + 1) acc cs', fun H2 n => ⟨ds.length - (i + 1), by omega, rfl, hlt, n⟩, fun x H2 y => ?_⟩
      obtain ⟨G3, e3, I3, r3⟩ := w.yields i H' x H2 G' _ _ (List.getElem?_eq_getElem hlt) e' I' y
      refine hw x (L2.wipe σ vs) (L2.wipe σ vs) H2 _ _ (wipe_wipe σ) (fun σ4 H4 ew q4 => ⟨ew, q4⟩) ?_
      refine hs i _ acc cs' Dl (List.getElem?_eq_getElem hlt) h' x (L2.wipe σ vs) G3 H2 _ ((E.mono (e1.trans (e'.trans e3))).wipe) I3 r3 fun σ4 Δ4 cs4 G4 H4 e4 E4 I4 h4 => ?_
      refine h4 σ4 G4 H4 _ E4 I4 fun b cs5 G5 H5 e5 I5 h5 => ?_
      cases b with
      | true =>
        show te σ4 H5 _
        refine h5.1 rfl σ4 G5 H5 _ (E4.mono e5) I5 fun y d6 cs6 G6 H6 e6 I6 r6 h6 => ?_
        obtain ⟨cs7, rfl, hl, h7⟩ := h6
        obtain ⟨gn, vs6, h8, r8⟩ := I6.lst (st I6)
        refine ⟨vs6, h8, by rw [r8.length]; exact hl, acc ++ [d6], cs7, G6, ((e'.trans e3).trans e4).trans (e5.trans e6), ?_, h7⟩
        have z := I6.put (o := .lst (vs6 ++ [y])) (co' := .lst (acc ++ [d6])) (st I6) gn ⟨gn, _, upd_same, r8.append (.cons r6 .nil)⟩
        rw [List.set_append_right _ _ (Nat.le_refl _), Nat.sub_self] at z
        exact z
      | false =>
        obtain ⟨cs7, rfl, h7⟩ := h5.2 rfl
        exact ⟨acc, cs7, G5, ((e'.trans e3).trans e4).trans e5, I5, h7⟩
    · have e : i = ds.length := by omega
      subst e
      exact .inl ⟨w.stops H' (e'.trans I'.same), q _ _ _ G' H' (e1.trans e') I' (.raw _) (hd acc cs' h' Dl)⟩
/-- a cell that is handed on as data -/
theorem er_shareLast {R : RK} (h : Er K te Δ cs fun d cs1 => ∃ p ds cs2, d = .raw (.ref p) ∧ cs1 = cs2 ++ [(p, .lst ds)] ∧ R (.lst ds) cs2) : Er K te Δ cs R := fun σ G H Q E I q =>
  h σ G H _ E I fun v d cs1 G1 H1 e1 I1 r1 ⟨p, ds, cs2, ed, ec, h1⟩ => by
    subst ed ec
    have e : (cs2 ++ [(p, CO.lst ds)])[cs2.length]? = some (p, .lst ds) := by simp
    obtain ⟨gn, vs, hp, rs⟩ := I1.lst e
    obtain ⟨I2, s2⟩ := I1.share e hp gn
    have I3 := I2.take cs2.length
    rw [List.set_append_right _ _ (Nat.le_refl _), List.take_left'] at I3
    · have ev : v = .ref p := r1.raw_inv
      subst ev
      exact q (.ref p) (.lst ds) cs2 _ H1 (e1.trans s2) I3 (.lst upd_same (rs.mono s2)) h1
    · rfl
theorem er_lc {wi : TI} {g : TG} {tt : TT} {vs : List Nat} {R : RK} (hw : TgtIn g vs) (h : Ei K wi Δ cs fun ds cs1 => ∃ Pv : Nat → List D → Cells → Prop, Pv 0 [] cs1 ∧
    (∀ i d acc cs2 p, ds[i]? = some d → Pv i acc cs2 → Gg K g d (wipeE Δ vs) (cs2 ++ [(p, .lst acc)]) fun Δ' cs3 => Et K tt Δ' cs3 fun b cs4 =>
      (b = true → Er K te Δ' cs4 fun y cs5 => ∃ cs6, cs5 = cs6 ++ [(p, .lst acc)] ∧ acc.length < sizeLine ∧ Pv (i + 1) (acc ++ [y]) cs6) ∧ (b = false → ∃ cs6, cs4 = cs6 ++ [(p, .lst acc)] ∧ Pv (i + 1) acc cs6)) ∧
    ∀ acc cs2, Pv ds.length acc cs2 → R (.lst acc) cs2) : Er K (tLc wi g tt te vs) Δ cs R := by
  refine er_shareLast (er_lcC hw ?_)
  intro σ G H Rr E I q
  refine h σ G H Rr E I fun J ds cs' G' H' e I' w ⟨Pv, h0, hs, hd⟩ => q J ds cs' G' H' e I' w ⟨Pv, h0, hs, fun acc cs2 hp p => ⟨p, acc, cs2, rfl, rfl, hd acc cs2 hp⟩⟩
end
end L3

/-! L3c -/
set_option maxHeartbeats 4000000
namespace L3
open PySem L2

/-! ### what a def promises, in data -/
/-- an exception in data: its class, its own fields -/
abbrev XA := Value → List (Str × D) → Cells → Prop
abbrev X0 : XA := fun _ _ _ => False
def XdOk (K : PySem.W.Frag) (G : Hp) (d : Option Addr) (pl : List (Str × D)) : Prop :=
  (d = none ∧ pl = []) ∨ ∃ dx fs, pl ≠ [] ∧ d = some dx ∧ G dx = some (.xd fs) ∧ fs.map (·.1) = pl.map (·.1) ∧ Reps K G (fs.map (·.2)) (pl.map (·.2))
def XQ (K : PySem.W.Frag) (G : Hp) (X : XA) (E : XK) : Prop := ∀ cls d pl cs' G' H', Same G G' → Own K G' H' cs' → XdOk K G' d pl → X cls pl cs' → E cls d H'
abbrev Tr := List D → Cells → RK → XA → Prop
def spA (K : PySem.W.Frag) (F : Tr) : Sp := fun vs H Q E => ∃ G cs ds R X, Own K G H cs ∧ Reps K G vs ds ∧ F ds cs R X ∧ RQ K G R Q ∧ XQ K G X E
def startE (N : List Str) (ds : List D) : Env := ds.map some ++ List.replicate (N.length - ds.length) none
section
variable {K : PySem.W.Frag} {G G' H H' : Hp} {σ : L2.St} {Δ : Env} {cs : Cells} {R : RK} {ta tb tc te : TE} {d x y : D} {X : XA}
theorem XQ.mono {E : XK} (e : Same G G') (h : XQ K G X E) : XQ K G' X E := fun cls d pl cs' G2 H2 a b c q => h cls d pl cs' G2 H2 (e.trans a) b c q
theorem xq0 {E : XK} : XQ K G X0 E := fun _ _ _ _ _ _ _ _ _ h => h.elim
theorem spA_len {F : Tr} {n : Nat} (h : ∀ ds cs R X, F ds cs R X → ds.length = n) : ∀ vs H Q E, spA K F vs H Q E → vs.length = n := fun vs H Q E ⟨G, cs, ds, R, X, I, r, f, _, _⟩ => by
  rw [r.length]
  exact h ds cs R X f
theorem repE_start {N : List Str} {vs : List V} {ds : List D} (r : Reps K G vs ds) : RepE K G (L2.start N vs) (startE N ds) := by
  refine ⟨by simp [L2.start, startE, r.length], fun i d q => ?_⟩
  unfold startE at q
  unfold L2.start
  by_cases hi : i < ds.length
  · rw [List.getElem?_append_left (by simpa using hi), List.getElem?_map] at q
    cases e : ds[i]? with
    | none => rw [e] at q; cases q
    | some d2 =>
      rw [e] at q
      cases q
      obtain ⟨v, h1, h2⟩ := r.get e
      refine ⟨v, ?_, h2⟩
      rw [List.getElem?_append_left (by simpa [r.length] using hi), List.getElem?_map, h1]
      rfl
  · rw [List.getElem?_append_right (by simpa using Nat.le_of_not_lt hi)] at q
    rw [List.getElem?_replicate] at q
    split at q <;> cases q
/-- a def's body: from its promise's front to its statements. The cells behind the n-th are dropped at a return -/
theorem enter {F : Tr} {N : List Str} {vs : List V} {Q : VK} {E : XK} {t : TS} (h : spA K F vs H Q E)
    (k : ∀ ds cs R X G, F ds cs R X → XQ K G X E → Xs K t ⟨fun _ cs' => ∃ n, R .non (cs'.take n), fun d cs' => ∃ n, R d (cs'.take n), fun _ _ => False, fun _ _ => False, fun G' => XQ K G' X E⟩ (startE N ds) cs) :
    t { nx := fun _ H' => Q .non H', rt := Q } (L2.start N vs) H := by
  obtain ⟨G, cs, ds, R, X, I, r, f, q, xq⟩ := h
  refine k ds cs R X G f xq (L2.start N vs) G H _ (repE_start r) I ⟨?_, ?_, ?_, ?_, fun G' e => xq.mono e⟩
  · intro σ' Δ' cs' G' H' e E' I' ⟨n, h'⟩
    exact q .non .non _ G' H' e (I'.take n) (.raw _) h'
  · intro v d cs' G' H' e I' r' ⟨n, h'⟩
    exact q v d _ G' H' e (I'.take n) r' h'
  · intro σ' Δ' cs' G' H' e E' I' h'
    exact h'.elim
  · intro σ' Δ' cs' G' H' e E' I' h'
    exact h'.elim
/-! ### calls -/
theorem er_call {F : Tr} {dvs : List V} {E : XK} {t : TA} (h : Ea K t Δ cs fun xs cs1 => F (xs ++ dvs.map D.raw) cs1 R X0) : Er K (tCall (spA K F) dvs E t) Δ cs R := fun σ G H Q Ev I q =>
  h σ G H _ Ev I fun vs xs cs1 G1 H1 e1 I1 r1 h1 => ⟨G1, cs1, _, R, X0, I1, r1.append (Reps.of_raws dvs), h1, q.mono e1, xq0⟩
/-- .. where exceptions are wished for -/
theorem er_callX {F : Tr} {dvs : List V} {E : XK} {t : TA} (hE : ∀ G, XQ K G X E) (h : Ea K t Δ cs fun xs cs1 => F (xs ++ dvs.map D.raw) cs1 R X) : Er K (tCall (spA K F) dvs E t) Δ cs R := fun σ G H Q Ev I q =>
  h σ G H _ Ev I fun vs xs cs1 G1 H1 e1 I1 r1 h1 => ⟨G1, cs1, _, R, X, I1, r1.append (Reps.of_raws dvs), h1, q.mono e1, hE G1⟩
theorem lookup_none {fs : List (Str × V)} {m : Str} (h : m ∉ fs.map (·.1)) : fs.lookup m = none := by
  induction fs with
  | nil => rfl
  | cons p r ih =>
    obtain ⟨f, v⟩ := p
    have h1 : m ≠ f := fun e => h (by rw [e]; exact List.mem_cons_self ..)
    have hb : (m == f) = false := beq_eq_false_iff_ne.mpr h1
    simp only [List.lookup, hb]
    exact ih fun z => h (List.mem_cons_of_mem _ z)
/-- a method of data -/
theorem er_meth {C : Addr} {m : Str} {F : Tr} {dvs : List V} {E : XK} {t : TA} (hE : ∀ G, XQ K G X E) (h : Er K ta Δ cs fun x cs1 => ∃ ns ds, x = .obj C ns ds ∧ m ∉ ns ∧ Ea K t Δ cs1 fun xs cs2 => F (x :: (xs ++ dvs.map D.raw)) cs2 R X) : Er K (tMeth C m (spA K F) dvs E ta t) Δ cs R := fun σ G H Q Ev I q =>
  h σ G H _ Ev I fun v x cs1 G1 H1 e1 I1 r1 ⟨ns, ds, ex, hm, h1⟩ => by
    subst ex
    obtain ⟨p, dx, fs, rfl, hp, hn, rs⟩ := id r1.obj_inv
    refine ⟨p, dx, fs, rfl, I1.same _ _ hp, lookup_none (by rw [hn]; exact hm), ?_⟩
    exact h1 σ G1 H1 _ (Ev.mono e1) I1 fun vs xs cs2 G2 H2 e2 I2 r2 h2 => ⟨G2, cs2, _, R, X, I2, .cons (r1.mono e2) (r2.append (Reps.of_raws dvs)), h2, q.mono (e1.trans e2), hE G2⟩
/-- a method of an owned object -/
theorem er_methC {C : Addr} {m : Str} {F : Tr} {dvs : List V} {E : XK} {t : TA} (hE : ∀ G, XQ K G X E) (h : Er K ta Δ cs fun x cs1 => ∃ (p : Addr) (i : Nat) (ns : List Str) (ds : List D), x = .raw (.ref p) ∧ cs1[i]? = some (p, CO.ins C ns ds) ∧ m ∉ ns ∧ Ea K t Δ cs1 fun xs cs2 => F (x :: (xs ++ dvs.map D.raw)) cs2 R X) : Er K (tMeth C m (spA K F) dvs E ta t) Δ cs R := fun σ G H Q Ev I q =>
  h σ G H _ Ev I fun v x cs1 G1 H1 e1 I1 r1 ⟨p, i, ns, ds, ex, hc, hm, h1⟩ => by
    subst ex
    obtain ⟨_, dx, fs, hp, hn, rs⟩ := I1.cell i p _ hc
    refine ⟨p, dx, fs, r1.raw_inv, hp, lookup_none (by rw [hn]; exact hm), ?_⟩
    exact h1 σ G1 H1 _ (Ev.mono e1) I1 fun vs xs cs2 G2 H2 e2 I2 r2 h2 => ⟨G2, cs2, _, R, X, I2, .cons (r1.mono e2) (r2.append (Reps.of_raws dvs)), h2, q.mono (e1.trans e2), hE G2⟩
/-- a new object, owned behind its __init__ -/
theorem er_makeC {C : Addr} {F : Tr} {dvs : List V} {E : XK} {t : TA} (hE : ∀ G, XQ K G X E) (h : Ea K t Δ cs fun xs cs1 => ∀ p, F (.raw (.ref p) :: (xs ++ dvs.map D.raw)) (cs1 ++ [(p, .ins C [] [])]) (fun d cs2 => d = .non ∧ R (.raw (.ref p)) cs2) X) : Er K (tMake C (spA K F) dvs E t) Δ cs R := fun σ G H Q Ev I q =>
  h σ G H _ Ev I fun vs xs cs1 G1 H1 e1 I1 r1 h1 => fun p dx np ndx ne => by
    have I2 : Own K G1 (upd H1 dx (.own p)) cs1 := I1.grown (same_new ndx)
    have np2 : upd H1 dx (.own p) p = none := by rw [upd_ne (Ne.symm ne)]; exact np
    have I3 := I2.snoc (p := p) (o := .ins C dx []) (co := .ins C [] []) np2 ⟨I1.same.free np, dx, [], upd_same, rfl, .nil⟩
    refine ⟨G1, _, _, _, X, I3, .cons (.raw _) (r1.append (Reps.of_raws dvs)), h1 p, fun v d cs2 G2 H2 e2 I4 r4 ⟨ed, h4⟩ => ?_, hE G1⟩
    subst ed
    exact ⟨r4.raw_inv, q (.ref p) _ cs2 G2 H2 (e1.trans e2) I4 (.raw _) h4⟩
/-- the last cell, an object, is handed on as data -/
theorem er_shareObj {R : RK} (h : Er K te Δ cs fun d cs1 => ∃ p C ns ds cs2, d = .raw (.ref p) ∧ cs1 = cs2 ++ [(p, .ins C ns ds)] ∧ R (.obj C ns ds) cs2) : Er K te Δ cs R := fun σ G H Q E I q =>
  h σ G H _ E I fun v d cs1 G1 H1 e1 I1 r1 ⟨p, C, ns, ds, cs2, ed, ec, h1⟩ => by
    subst ed ec
    have e : (cs2 ++ [(p, CO.ins C ns ds)])[cs2.length]? = some (p, .ins C ns ds) := by simp
    obtain ⟨gn, dx, fs, hp, hn, rs⟩ := I1.cell _ _ _ e
    obtain ⟨I2, s2⟩ := I1.share e hp gn
    have I3 := I2.take cs2.length
    rw [List.set_append_right _ _ (Nat.le_refl _), List.take_left'] at I3
    · have ev : v = .ref p := r1.raw_inv
      subst ev
      exact q (.ref p) (.obj C ns ds) cs2 _ H1 (e1.trans s2) I3 (.obj upd_same hn (rs.mono s2)) h1
    · rfl
theorem er_make {C : Addr} {F : Tr} {dvs : List V} {E : XK} {t : TA} (hE : ∀ G, XQ K G X E) (h : Ea K t Δ cs fun xs cs1 => ∀ p, F (.raw (.ref p) :: (xs ++ dvs.map D.raw)) (cs1 ++ [(p, .ins C [] [])]) (fun d cs2 => d = .non ∧ ∃ ns ds cs3, cs2 = cs3 ++ [(p, .ins C ns ds)] ∧ R (.obj C ns ds) cs3) X) : Er K (tMake C (spA K F) dvs E t) Δ cs R := fun σ G H Q Ev I q =>
  h σ G H _ Ev I fun vs xs cs1 G1 H1 e1 I1 r1 h1 => fun p dx np ndx ne => by
    have I2 : Own K G1 (upd H1 dx (.own p)) cs1 := I1.grown (same_new ndx)
    have np2 : upd H1 dx (.own p) p = none := by rw [upd_ne (Ne.symm ne)]; exact np
    have I3 := I2.snoc (p := p) (o := .ins C dx []) (co := .ins C [] []) np2 ⟨I1.same.free np, dx, [], upd_same, rfl, .nil⟩
    refine ⟨G1, _, _, _, X, I3, .cons (.raw _) (r1.append (Reps.of_raws dvs)), h1 p, fun v d cs2 G2 H2 e2 I4 r4 ⟨ed, ns, ds, cs3, ec, h4⟩ => ?_, hE G1⟩
    subst ed ec
    have e : (cs3 ++ [(p, CO.ins C ns ds)])[cs3.length]? = some (p, .ins C ns ds) := by simp
    obtain ⟨gn, dx, fs, hp, hn, rs⟩ := I4.cell _ _ _ e
    obtain ⟨I5, s5⟩ := I4.share e hp gn
    have I6 := I5.take cs3.length
    rw [List.set_append_right _ _ (Nat.le_refl _), List.take_left'] at I6
    · exact ⟨r4.raw_inv, q (.ref p) (.obj C ns ds) cs3 _ H2 ((e1.trans e2).trans s5) I6 (.obj upd_same hn (rs.mono s5)) h4⟩
    · rfl
/-! ### fields -/
def getN (f : Str) : List Str → List D → Option D
  | n :: ns, d :: ds => if f = n then some d else getN f ns ds
  | _, _ => none
theorem getN_lookup {f : Str} : ∀ {fs : List (Str × V)} {ds : List D} {d : D}, Reps K G (fs.map (·.2)) ds → getN f (fs.map (·.1)) ds = some d → ∃ v, fs.lookup f = some v ∧ Rep K G v d
  | [], _, _, _, e => by cases e
  | (n, v) :: fs, [], _, h, _ => by cases h
  | (n, v) :: fs, d :: ds, x, h, e => by
    cases h with
    | cons r rs =>
      have e : (if f = n then some d else getN f (fs.map (·.1)) ds) = some x := e
      by_cases hf : f = n
      · rw [if_pos hf] at e
        cases e
        have hb : (f == n) = true := beq_iff_eq.mpr hf
        exact ⟨v, by simp only [List.lookup, hb], r⟩
      · rw [if_neg hf] at e
        have hb : (f == n) = false := beq_eq_false_iff_ne.mpr hf
        obtain ⟨w, h1, h2⟩ := getN_lookup rs e
        exact ⟨w, by simp only [List.lookup, hb]; exact h1, h2⟩
theorem er_fld {f : Str} (h : Er K ta Δ cs fun x cs1 => ∃ C ns ds d, x = .obj C ns ds ∧ Cls K C ∧ NoAttr K C f ∧ getN f ns ds = some d ∧ R d cs1) : Er K (tFld K ta f) Δ cs R := fun σ G H Q E I q =>
  h σ G H _ E I fun v x cs1 G1 H1 e1 I1 r1 ⟨C, ns, ds, d, ex, hc, hn, hg, h1⟩ => by
    subst ex
    obtain ⟨p, dx, fs, rfl, hp, en, rs⟩ := r1.obj_inv
    subst en
    obtain ⟨w, hl, rw'⟩ := getN_lookup rs hg
    exact ⟨p, C, dx, fs, w, rfl, I1.same _ _ hp, hc, hn, hl, (q.mono e1).now I1 rw' h1⟩
theorem er_fldC {f : Str} (h : Er K ta Δ cs fun x cs1 => ∃ (p : Addr) (i : Nat) (C : Addr) (ns : List Str) (ds : List D) (d : D), x = .raw (.ref p) ∧ cs1[i]? = some (p, CO.ins C ns ds) ∧ Cls K C ∧ NoAttr K C f ∧ getN f ns ds = some d ∧ R d cs1) : Er K (tFld K ta f) Δ cs R := fun σ G H Q E I q =>
  h σ G H _ E I fun v x cs1 G1 H1 e1 I1 r1 ⟨p, i, C, ns, ds, d, ex, hci, hc, hn, hg, h1⟩ => by
    subst ex
    obtain ⟨gn, dx, fs, hp, en, rs⟩ := I1.cell i p _ hci
    subst en
    obtain ⟨w, hl, rw'⟩ := getN_lookup rs hg
    exact ⟨p, C, dx, fs, w, r1.raw_inv, hp, hc, hn, hl, (q.mono e1).now I1 rw' h1⟩
theorem putF_new {f : Str} {v : V} : ∀ {fs : List (Str × V)}, f ∉ fs.map (·.1) → putF f v fs = fs ++ [(f, v)]
  | [], _ => rfl
  | (n, w) :: fs, h => by
    have h1 : n ≠ f := fun e => h (by rw [← e]; exact List.mem_cons_self ..)
    show (if n = f then (n, v) :: fs else (n, w) :: putF f v fs) = (n, w) :: (fs ++ [(f, v)])
    rw [if_neg h1, putF_new fun z => h (List.mem_cons_of_mem _ z)]
/-- a new field of an owned object -/
theorem xs_fldNew {f : Str} {tv : TE} {A : AE} (h : Er K tv Δ cs fun d cs1 => Er K ta Δ cs1 fun x cs2 => ∃ (p : Addr) (i : Nat) (C : Addr) (ns : List Str) (ds : List D), x = .raw (.ref p) ∧ cs2[i]? = some (p, CO.ins C ns ds) ∧ Cls K C ∧ NoAttr K C f ∧ ns.length < 1000 ∧ f ∉ ns ∧ A.nx Δ (cs2.set i (p, .ins C (ns ++ [f]) (ds ++ [d])))) : Xs K (sFld K ta tv f) A Δ cs := fun σ G H D E I q =>
  h σ G H _ E I fun v d cs1 G1 H1 e1 I1 r1 h1 => h1 σ G1 H1 _ (E.mono e1) I1 fun w x cs2 G2 H2 e2 I2 r2 ⟨p, i, C, ns, ds, ex, hci, hc, hn, hl, hf, h2⟩ => by
    subst ex
    obtain ⟨gn, dx, fs, hp, en, rs⟩ := I2.cell i p _ hci
    subst en
    have e3 : putF f v fs = fs ++ [(f, v)] := putF_new hf
    refine ⟨p, C, dx, fs, r2.raw_inv, hp, hc, hn, by simpa using hl, ?_⟩
    rw [e3]
    refine q.nx σ Δ _ G2 _ (e1.trans e2) (E.mono (e1.trans e2)) (I2.put (co' := .ins C (fs.map (·.1) ++ [f]) (ds ++ [d])) hci gn ⟨gn, dx, _, upd_same, by simp, ?_⟩) h2
    rw [List.map_append]
    exact rs.append (.cons (r1.mono e2) .nil)
end
end L3

/-! L3d -/
set_option maxHeartbeats 4000000
namespace L3
open PySem L2
section
variable {K : PySem.W.Frag} {G G' H H' : Hp} {σ : L2.St} {Δ : Env} {cs : Cells} {R : RK} {ta tb tc te to : TE} {d x y : D} {ds es : List D} {A : AE} {t : TA}
/-! ### operators -/
theorem o2_I0 {g : Int → Int → V} {i j : Int} (h : R (.raw (g i j)) cs) : O2 K (rI0 g) (.int i) (.int j) cs R := fun v w G H Q rv rw' I q => ⟨i, j, rv.raw_inv, rw'.raw_inv, q.now I (.raw _) h⟩
theorem o2_I {C : Int → Int → Prop} {g : Int → Int → V} {i j : Int} (hc : C i j) (h : R (.raw (g i j)) cs) : O2 K (rI C g) (.int i) (.int j) cs R := fun v w G H Q rv rw' I q => ⟨i, j, rv.raw_inv, rw'.raw_inv, hc, q.now I (.raw _) h⟩
theorem o1_U {g : Int → V} {i : Int} (h : R (.raw (g i)) cs) : O1 K (rU g) (.int i) cs R := fun v G H Q rv I q => ⟨i, rv.raw_inv, q.now I (.raw _) h⟩
theorem o2_eq {v w : V} (hs : scal v w = true) (h : R (.bl (decide (v = w))) cs) : O2 K rEq (.raw v) (.raw w) cs R := fun a b G H Q ra rb I q => by
  rw [ra.raw_inv, rb.raw_inv]
  exact ⟨hs, q.now I (.raw _) h⟩
theorem o2_ne {v w : V} (hs : scal v w = true) (h : R (.bl (!decide (v = w))) cs) : O2 K rNe (.raw v) (.raw w) cs R := fun a b G H Q ra rb I q => by
  rw [ra.raw_inv, rb.raw_inv]
  exact ⟨hs, q.now I (.raw _) h⟩
theorem dec_congr {p q : Prop} [Decidable p] [Decidable q] (h : p ↔ q) : decide p = decide q := by
  by_cases hp : p
  · rw [decide_eq_true hp, decide_eq_true (h.mp hp)]
  · rw [decide_eq_false hp, decide_eq_false fun z => hp (h.mpr z)]
theorem o2_eqI {i j : Int} (h : R (.bl (decide (i = j))) cs) : O2 K rEq (.int i) (.int j) cs R := o2_eq rfl (by
  rw [dec_congr (show V.int i = V.int j ↔ i = j from ⟨V.int.inj, congrArg _⟩)]
  exact h)
theorem o2_neI {i j : Int} (h : R (.bl (!decide (i = j))) cs) : O2 K rNe (.int i) (.int j) cs R := o2_ne rfl (by
  rw [dec_congr (show V.int i = V.int j ↔ i = j from ⟨V.int.inj, congrArg _⟩)]
  exact h)
theorem o2_eqT {i j : Str} (h : R (.bl (decide (i = j))) cs) : O2 K rEq (.str i) (.str j) cs R := o2_eq rfl (by
  rw [dec_congr (show V.str i = V.str j ↔ i = j from ⟨V.str.inj, congrArg _⟩)]
  exact h)
theorem o2_neT {i j : Str} (h : R (.bl (!decide (i = j))) cs) : O2 K rNe (.str i) (.str j) cs R := o2_ne rfl (by
  rw [dec_congr (show V.str i = V.str j ↔ i = j from ⟨V.str.inj, congrArg _⟩)]
  exact h)
theorem o2_eqB {i j : Bool} (h : R (.bl (decide (i = j))) cs) : O2 K rEq (.bl i) (.bl j) cs R := o2_eq rfl (by
  rw [dec_congr (show V.bl i = V.bl j ↔ i = j from ⟨V.bl.inj, congrArg _⟩)]
  exact h)
theorem o2_neB {i j : Bool} (h : R (.bl (!decide (i = j))) cs) : O2 K rNe (.bl i) (.bl j) cs R := o2_ne rfl (by
  rw [dec_congr (show V.bl i = V.bl j ↔ i = j from ⟨V.bl.inj, congrArg _⟩)]
  exact h)
theorem reps_atI {vs : List V} (r : Reps K G vs ds) {i : Int} (h : atI ds i = some d) : ∃ v, atI vs i = some v ∧ Rep K G v d := by
  unfold atI at h ⊢
  rw [r.length]
  cases e : ixN ds.length i with
  | none => rw [e] at h; cases h
  | some j =>
    rw [e] at h
    exact r.get h
theorem o2_ixL {i : Int} (ha : atI ds i = some d) (h : R d cs) : O2 K (rIxL K) (.lst ds) (.int i) cs R := fun v w G H Q rv rw' I q => by
  obtain ⟨p, vs, rfl, hp, rs⟩ := rv.lst_inv
  obtain ⟨z, h1, h2⟩ := reps_atI rs ha
  exact ⟨p, vs, i, z, rfl, rw'.raw_inv, I.same.seq hp, h1, q.now I h2 h⟩
theorem o2_ixR {i : Int} (ha : atI ds i = some d) (h : R d cs) : O2 K (rIxL K) (.ro ds) (.int i) cs R := fun v w G H Q rv rw' I q => by
  obtain ⟨p, vs, rfl, hp, rs⟩ := rv.ro_inv
  obtain ⟨z, h1, h2⟩ := reps_atI rs ha
  exact ⟨p, vs, i, z, rfl, rw'.raw_inv, I.same.seq hp, h1, q.now I h2 h⟩
theorem o2_ixC {i : Int} {p : Addr} {k : Nat} (hc : cs[k]? = some (p, CO.lst ds)) (ha : atI ds i = some d) (h : R d cs) : O2 K (rIxL K) (.raw (.ref p)) (.int i) cs R := fun v w G H Q rv rw' I q => by
  obtain ⟨_, vs, hp, rs⟩ := I.lst hc
  obtain ⟨z, h1, h2⟩ := reps_atI rs ha
  exact ⟨p, vs, i, z, rv.raw_inv, rw'.raw_inv, .inl (.inl hp), h1, q.now I h2 h⟩
theorem o2_ixT {i : Int} (ha : atI ds i = some d) (h : R d cs) : O2 K (rIxT K) (.tup ds) (.int i) cs R := fun v w G H Q rv rw' I q => by
  obtain ⟨p, vs, rfl, hp, rs⟩ := rv.tup_inv
  obtain ⟨z, h1, h2⟩ := reps_atI rs ha
  exact ⟨p, vs, i, z, rfl, rw'.raw_inv, seqT I.same hp, h1, q.now I h2 h⟩
theorem o2_ixS {i : Int} {z : Str} {c : Nat} (hz : z.length ≤ sizeLine) (ha : atI z.cps.toList i = some c) (h : R (.str ⟨#[c]⟩) cs) : O2 K rIxS (.str z) (.int i) cs R := fun v w G H Q rv rw' I q =>
  ⟨z, i, c, rv.raw_inv, rw'.raw_inv, hz, ha, q.now I (.raw _) h⟩
theorem atI_of {α : Type} {xs : List α} {i : Int} {j : Nat} {v : α} (e : i = (j : Int)) (h : xs[j]? = some v) : atI xs i = some v := by
  rw [e]
  exact atI_nat h
theorem o2_addS {i j : Str} (hl : i.length + j.length ≤ sizeLine) (h : R (.str (i ++ j)) cs) : O2 K (fun x y H Q => ∃ i j, x = V.str i ∧ y = V.str j ∧ i.length + j.length ≤ sizeLine ∧ Q (V.str (i ++ j)) H) (.str i) (.str j) cs R := fun v w G H Q rv rw' I q =>
  ⟨i, j, rv.raw_inv, rw'.raw_inv, hl, q.now I (.raw _) h⟩
/-- x in a list or tuple of flat values -/
theorem o2_inT {neg : Bool} {v : V} {ws : List V} (h1 : flatV v = true) (h2 : ws.all flatV = true) (h : R (.bl (if neg then !inV v ws else inV v ws)) cs) : O2 K (rIn K neg) (.raw v) (.tup (ws.map D.raw)) cs R := fun a b G H Q ra rb I q => by
  obtain ⟨p, vs, rfl, hp, rs⟩ := rb.tup_inv
  have ea := ra.raw_inv
  have ev := Reps.raws rs
  subst ea ev
  exact ⟨p, _, rfl, .inr (seqT I.same hp), h1, h2, q.now I (.raw _) h⟩
theorem o2_inL {neg : Bool} {v : V} {ws : List V} (h1 : flatV v = true) (h2 : ws.all flatV = true) (h : R (.bl (if neg then !inV v ws else inV v ws)) cs) : O2 K (rIn K neg) (.raw v) (.lst (ws.map D.raw)) cs R := fun a b G H Q ra rb I q => by
  obtain ⟨p, vs, rfl, hp, rs⟩ := rb.lst_inv
  have ea := ra.raw_inv
  have ev := Reps.raws rs
  subst ea ev
  exact ⟨p, _, rfl, .inl (I.same.seq hp), h1, h2, q.now I (.raw _) h⟩
/-- two lists, glued -/
theorem o2_cat (hl : ds.length + es.length ≤ sizeLine) (h : R (.lst (ds ++ es)) cs) : O2 K rCat (.lst ds) (.lst es) cs R := fun v w G H Q rv rw' I q => by
  obtain ⟨p, vs, rfl, hp, rs⟩ := rv.lst_get
  obtain ⟨p2, ws, rfl, hp2, rs2⟩ := rw'.lst_get
  refine ⟨p, p2, vs, ws, rfl, rfl, I.same _ _ hp, I.same _ _ hp2, by rw [rs.length, rs2.length]; exact hl, fun u n => ?_⟩
  have n' := I.same.free n
  exact q (.ref u) _ cs _ _ (same_new n') (I.fresh n) (.lst upd_same ((rs.append rs2).mono (same_new n'))) h
/-! ### slices -/
def Eo (K : PySem.W.Frag) (t : L2.TO) (Δ : Env) (cs : Cells) (R : Option Int → Cells → Prop) : Prop := ∀ σ G H Q, RepE K G σ Δ → Own K G H cs → (∀ o cs' G' H', Same G G' → Own K G' H' cs' → R o cs' → Q o H') → t σ H Q
theorem eo_none {R : Option Int → Cells → Prop} (h : R none cs) : Eo K tNoPart Δ cs R := fun σ G H Q E I q => q none cs G H (Same.refl G) I h
theorem eo_some {R : Option Int → Cells → Prop} (h : Er K te Δ cs fun d cs1 => ∃ i, d = .int i ∧ R (some i) cs1) : Eo K (tPart te) Δ cs R := fun σ G H Q E I q =>
  h σ G H _ E I fun v d cs1 G1 H1 e1 I1 r1 ⟨i, ed, h1⟩ => by
    subst ed
    exact ⟨i, r1.raw_inv, q (some i) cs1 G1 H1 e1 I1 h1⟩
theorem er_slS {lo hi : L2.TO} (h : Er K te Δ cs fun d cs1 => ∃ z, d = .str z ∧ z.length ≤ sizeLine ∧ Eo K lo Δ cs1 fun l cs2 => Eo K hi Δ cs2 fun u cs3 => R (.str (cutS z l u)) cs3) : Er K (tSl rSlS te lo hi) Δ cs R := fun σ G H Q E I q =>
  h σ G H _ E I fun v d cs1 G1 H1 e1 I1 r1 ⟨z, ed, hz, h1⟩ => by
    subst ed
    refine h1 σ G1 H1 _ (E.mono e1) I1 fun l cs2 G2 H2 e2 I2 h2 => h2 σ G2 H2 _ ((E.mono e1).mono e2) I2 fun u cs3 G3 H3 e3 I3 h3 => ?_
    exact ⟨z, r1.raw_inv, hz, q _ _ cs3 G3 H3 ((e1.trans e2).trans e3) I3 (.raw _) h3⟩
def cutD (xs : List D) (lo hi : Option Int) : List D := (xs.drop (HT.sIx xs.length 0 lo)).take (HT.sIx xs.length xs.length hi - HT.sIx xs.length 0 lo)
theorem Reps.cut {vs : List V} (r : Reps K G vs ds) (lo hi : Option Int) : Reps K G (cutV vs lo hi) (cutD ds lo hi) := by
  unfold cutV cutD
  rw [r.length]
  exact (r.drop _).take _
theorem er_slL {lo hi : L2.TO} (h : Er K te Δ cs fun d cs1 => ∃ ds, d = .lst ds ∧ Eo K lo Δ cs1 fun l cs2 => Eo K hi Δ cs2 fun u cs3 => R (.lst (cutD ds l u)) cs3) : Er K (tSl (rSlL K) te lo hi) Δ cs R := fun σ G H Q E I q =>
  h σ G H _ E I fun v d cs1 G1 H1 e1 I1 r1 ⟨ds, ed, h1⟩ => by
    subst ed
    refine h1 σ G1 H1 _ (E.mono e1) I1 fun l cs2 G2 H2 e2 I2 h2 => h2 σ G2 H2 _ ((E.mono e1).mono e2) I2 fun u cs3 G3 H3 e3 I3 h3 => ?_
    obtain ⟨p, vs, rfl, hp, rs⟩ := ((r1.mono e2).mono e3).lst_inv
    refine ⟨p, vs, rfl, I3.same.seq hp, fun w n => ?_⟩
    have n' := I3.same.free n
    exact q (.ref w) _ cs3 _ _ (((e1.trans e2).trans e3).trans (same_new n')) (I3.fresh n) (.lst upd_same ((rs.cut l u).mono (same_new n'))) h3
/-! ### built-ins -/
theorem reps1 {vs : List V} (r : Reps K G vs [x]) : ∃ v, vs = [v] ∧ Rep K G v x := by
  cases r with
  | cons a b => cases b; exact ⟨_, rfl, a⟩
theorem reps2 {vs : List V} (r : Reps K G vs [x, y]) : ∃ v w, vs = [v, w] ∧ Rep K G v x ∧ Rep K G w y := by
  cases r with
  | cons a b =>
    obtain ⟨w, rfl, h⟩ := reps1 b
    exact ⟨_, w, rfl, a, h⟩
def rLenX (K : PySem.W.Frag) : List V → Hp → VK → Prop := fun xs H Q => ∃ x n, xs = [x] ∧ LenV K x H n ∧ Q (.int n) H
theorem call_lenX {X : Cx} : CallR X (.builtin "len") (rLenX X.K) := call_len
theorem oa_lenS {z : Str} (hz : z.length ≤ sizeLine) (h : R (.int (z.length : Nat)) cs) : Oa K (rLenX K) [.str z] cs R := fun vs G H Q r I q => by
  obtain ⟨v, rfl, rv⟩ := reps1 r
  rw [rv.raw_inv]
  exact ⟨_, z.length, rfl, ⟨hz, rfl⟩, q.now I (.raw _) h⟩
theorem oa_lenL (h : R (.int (ds.length : Nat)) cs) : Oa K (rLenX K) [.lst ds] cs R := fun vs G H Q r I q => by
  obtain ⟨v, rfl, rv⟩ := reps1 r
  obtain ⟨p, ws, rfl, hp, rs⟩ := rv.lst_inv
  exact ⟨_, ds.length, rfl, .inl ⟨ws, I.same.seq hp, rs.length.symm⟩, q.now I (.raw _) h⟩
theorem oa_lenR (h : R (.int (ds.length : Nat)) cs) : Oa K (rLenX K) [.ro ds] cs R := fun vs G H Q r I q => by
  obtain ⟨v, rfl, rv⟩ := reps1 r
  obtain ⟨p, ws, rfl, hp, rs⟩ := rv.ro_inv
  exact ⟨_, ds.length, rfl, .inl ⟨ws, I.same.seq hp, rs.length.symm⟩, q.now I (.raw _) h⟩
theorem oa_lenT (h : R (.int (ds.length : Nat)) cs) : Oa K (rLenX K) [.tup ds] cs R := fun vs G H Q r I q => by
  obtain ⟨v, rfl, rv⟩ := reps1 r
  obtain ⟨p, ws, rfl, hp, rs⟩ := rv.tup_inv
  exact ⟨_, ds.length, rfl, .inr ⟨ws, seqT I.same hp, rs.length.symm⟩, q.now I (.raw _) h⟩
theorem oa_lenC {p : Addr} {k : Nat} (hc : cs[k]? = some (p, CO.lst ds)) (h : R (.int (ds.length : Nat)) cs) : Oa K (rLenX K) [.raw (.ref p)] cs R := fun vs G H Q r I q => by
  obtain ⟨v, rfl, rv⟩ := reps1 r
  rw [rv.raw_inv]
  obtain ⟨_, ws, hp, rs⟩ := I.lst hc
  exact ⟨_, ds.length, rfl, .inl ⟨ws, .inl (.inl hp), rs.length.symm⟩, q.now I (.raw _) h⟩
/-- reads of ints alone -/
theorem oa_I1 {r : List V → Hp → VK → Prop} {i : Int} {w : V} (hr : ∀ H Q, Q w H → r [.int i] H Q) (h : R (.raw w) cs) : Oa K r [.int i] cs R := fun vs G H Q rs I q => by
  obtain ⟨v, rfl, rv⟩ := reps1 rs
  rw [rv.raw_inv]
  exact hr H Q (q.now I (.raw _) h)
theorem oa_V1 {r : List V → Hp → VK → Prop} {v w : V} (hr : ∀ H Q, Q w H → r [v] H Q) (h : R (.raw w) cs) : Oa K r [.raw v] cs R := fun vs G H Q rs I q => by
  obtain ⟨v', rfl, rv⟩ := reps1 rs
  rw [rv.raw_inv]
  exact hr H Q (q.now I (.raw _) h)
theorem oa_V2 {r : List V → Hp → VK → Prop} {u v w : V} (hr : ∀ H Q, Q w H → r [u, v] H Q) (h : R (.raw w) cs) : Oa K r [.raw u, .raw v] cs R := fun vs G H Q rs I q => by
  obtain ⟨u', v', rfl, ru, rv⟩ := reps2 rs
  rw [ru.raw_inv, rv.raw_inv]
  exact hr H Q (q.now I (.raw _) h)
theorem oa_all {bs : List Bool} (h : R (.bl (bs.all id)) cs) : Oa K (rAll K) [.lst (bs.map D.bl)] cs R := fun vs G H Q r I q => by
  obtain ⟨v, rfl, rv⟩ := reps1 r
  obtain ⟨p, ws, rfl, hp, rs⟩ := rv.lst_inv
  have e : bs.map D.bl = (bs.map V.bl).map D.raw := by rw [List.map_map]; rfl
  rw [e] at rs
  rw [Reps.raws rs] at hp
  exact ⟨p, bs, rfl, I.same.seq hp, q.now I (.raw _) h⟩
/-! ### what type a value has -/
inductive TyD (K : PySem.W.Frag) : D → String → Prop
  | non : TyD K .non "NoneType"
  | bl (b : Bool) : TyD K (.bl b) "bool"
  | int (i : Int) : TyD K (.int i) "int"
  | str (s : Str) : TyD K (.str s) "str"
  | lst (ds : List D) : TyD K (.lst ds) "list"
  | tup (ds : List D) : TyD K (.tup ds) "tuple"
theorem TyD.tyx {n : String} (h : TyD K d n) {v : V} (r : Rep K G v d) (s : Same G H) : TyX K H v (.type n) := by
  cases h with
  | non => rw [r.raw_inv]; exact .base .non
  | bl b => rw [r.raw_inv]; exact .base (.bl b)
  | int i => rw [r.raw_inv]; exact .base (.int i)
  | str i => rw [r.raw_inv]; exact .base (.str i)
  | lst ds =>
    obtain ⟨p, vs, rfl, hp, rs⟩ := r.lst_get
    exact .base (.lst (s _ _ hp))
  | tup ds =>
    obtain ⟨p, vs, rfl, hp, rs⟩ := r.tup_inv
    rcases seqT s hp with (h | ⟨o, h⟩) | ⟨o, its, n, h, hc, _⟩
    · exact .base (.tup h)
    · exact .fTuple h
    · exact .kTuple h hc
theorem oa_isi {n c : String} {b : Bool} (hd : TyD K d n) (hb : kitB n c = some b) (h : R (.bl b) cs) : Oa K (rIsi K) [d, .raw (.ty c)] cs R := fun vs G H Q r I q => by
  obtain ⟨v, w, rfl, rv, rw'⟩ := reps2 r
  rw [rw'.raw_inv]
  exact ⟨v, .ty c, .type n, .type c, b, rfl, .ty c, hd.tyx rv I.same, kit_ty hb, q.now I (.raw _) h⟩
/-- isinstance(x, (list, tuple)) -/
theorem er_isi2 {c1 c2 n : String} {b1 b2 : Bool} (h : Er K te Δ cs fun d cs1 => TyD K d n ∧ kitB n c1 = some b1 ∧ kitB n c2 = some b2 ∧ R (.bl (b1 || b2)) cs1) : Er K (tCB (rIsiT K) (tCons te (tCons (tTup (tCons (tC (.ty c1)) (tCons (tC (.ty c2)) tNil))) tNil))) Δ cs R := fun σ G H Q E I q =>
  h σ G H _ E I fun v d cs1 G1 H1 e1 I1 r1 ⟨hd, h1, h2, hR⟩ => ⟨by show 2 ≤ sizeLine; decide, fun p n => by
    have n' := I1.same.free n
    refine ⟨v, p, [.ty c1, .ty c2], _, [.type c1, .type c2], b1 || b2, rfl, upd_same, .cons (.ty c1) (.cons (.ty c2) .nil), hd.tyx r1 (I1.same.trans (same_new n)), ?_, (q.mono e1) (.bl (b1 || b2)) (.bl (b1 || b2)) cs1 _ _ (same_new (o := .tup [.ty c1, .ty c2]) n') (I1.fresh n) (.raw _) hR⟩
    refine kitAny_cons (kit_ty h1) (fun e => ?_) (fun e => by rw [e]; rfl)
    rw [e, Bool.false_or]
    refine kitAny_cons (kit_ty h2) (fun e => ?_) (fun e => e)
    rw [e]
    exact kitAny_nil⟩
/-! ### methods of built-in types -/
theorem er_bmS {r : V → List V → Hp → VK → Prop} (h : Er K to Δ cs fun d cs1 => ∃ z, d = .str z ∧ Ea K t Δ cs1 fun xs cs2 => ∀ vs G H Q, Reps K G vs xs → Own K G H cs2 → RQ K G R Q → r (.str z) vs H Q) : Er K (tBM K "str" r to t) Δ cs R := fun σ G H Q E I q =>
  h σ G H _ E I fun v d cs1 G1 H1 e1 I1 r1 ⟨z, ed, h1⟩ => by
    subst ed
    rw [r1.raw_inv]
    exact ⟨rfl, h1 σ G1 H1 _ (E.mono e1) I1 fun vs xs cs2 G2 H2 e2 I2 r2 h2 => h2 vs G2 H2 Q r2 I2 (q.mono (e1.trans e2))⟩
/-- x.append(y) -/
theorem er_app {tf : TE} (h : Er K to Δ cs fun x cs1 => ∃ (p : Addr) (k : Nat) (ds : List D), x = .raw (.ref p) ∧ cs1[k]? = some (p, CO.lst ds) ∧
    Er K te Δ cs1 fun d cs2 => ∃ ds2 : List D, cs2[k]? = some (p, CO.lst ds2) ∧ ds2.length < sizeLine ∧ R .non (cs2.set k (p, .lst (ds2 ++ [d])))) : Er K (tBM K "list" rAppend to (tCons te tNil)) Δ cs R := fun σ G H Q E I q =>
  h σ G H _ E I fun v x cs1 G1 H1 e1 I1 r1 ⟨p, k, ds, ex, hc, h1⟩ => by
    subst ex
    have ev := r1.raw_inv
    subst ev
    obtain ⟨_, vs, hp, rs⟩ := I1.lst hc
    refine ⟨.inl ⟨rfl, vs, .inl (.inl hp)⟩, h1 σ G1 H1 _ (E.mono e1) I1 fun w d cs2 G2 H2 e2 I2 r2 ⟨ds2, hc2, hl, h2⟩ => ?_⟩
    obtain ⟨gn, vs2, hp2, rs2⟩ := I2.lst hc2
    refine ⟨p, vs2, w, rfl, rfl, hp2, by rw [rs2.length]; exact hl, ?_⟩
    exact q .non .non _ G2 _ (e1.trans e2) (I2.put (co' := .lst (ds2 ++ [d])) hc2 gn ⟨gn, _, upd_same, rs2.append (.cons r2 .nil)⟩) (.raw _) h2
/-- x[i] = y -/
theorem gg_sub {ti : TE} {N : Env → Cells → Prop} (h : Er K to Δ cs fun x cs1 => Er K ti Δ cs1 fun y cs2 => ∃ (p : Addr) (k : Nat) (ds : List D) (i : Int) (j : Nat), x = .raw (.ref p) ∧ y = .int i ∧ cs2[k]? = some (p, CO.lst ds) ∧ ixN ds.length i = some j ∧ N Δ (cs2.set k (p, .lst (ds.set j d)))) :
    Gg K (gSub to ti rSetL) d Δ cs N := fun v σ G H Q E I r q =>
  h σ G H _ E I fun w x cs1 G1 H1 e1 I1 r1 h1 => h1 σ G1 H1 _ (E.mono e1) I1 fun u y cs2 G2 H2 e2 I2 r2 ⟨p, k, ds, i, j, ex, ey, hc, hj, h2⟩ => by
    subst ex ey
    have ew := r1.raw_inv
    have eu := r2.raw_inv
    subst ew eu
    obtain ⟨gn, vs, hp, rs⟩ := I2.lst hc
    refine ⟨p, vs, i, j, rfl, rfl, hp, by rw [rs.length]; exact hj, ?_⟩
    exact q σ Δ _ G2 _ (e1.trans e2) ((E.mono e1).mono e2) (I2.put (co' := .lst (ds.set j d)) hc gn ⟨gn, _, upd_same, rs.set ((r.mono e1).mono e2) j⟩) h2
/-- a, b = x, y -/
theorem xs_par {i j : Nat} (h : Ea K t Δ cs fun xs cs1 => ∃ x y, xs = [x, y] ∧ A.nx ((Δ.set i (some x)).set j (some y)) cs1) : Xs K (tPar i j t) A Δ cs := fun σ G H D E I q =>
  h σ G H _ E I fun vs xs cs1 G1 H1 e1 I1 r1 ⟨x, y, ex, h1⟩ => by
    subst ex
    obtain ⟨v, w, rfl, rv, rw'⟩ := reps2 r1
    exact ⟨v, w, rfl, q.nx _ _ cs1 G1 H1 e1 (((E.mono e1).set rv i).set rw' j) I1 h1⟩
/-- ''.join(xs), the texts a list -/
def rJoin (K : PySem.W.Frag) : V → List V → Hp → VK → Prop := fun x xs H Q => ∃ a p, ∃ ys : List Str, x = .str a ∧ xs = [.ref p] ∧ (SqL K H p (ys.map V.str) ∨ SqT K H p (ys.map V.str)) ∧
  (ys.map (·.length)).sum + ys.length * a.length ≤ 16777216 ∧ Q (.str (Txt.join a ys)) H
theorem er_join (h : Er K to Δ cs fun x cs1 => ∃ a, x = .str a ∧ Er K te Δ cs1 fun y cs2 => ∃ ys : List Str, y = .lst (ys.map D.str) ∧ (ys.map (·.length)).sum + ys.length * a.length ≤ 16777216 ∧ R (.str (Txt.join a ys)) cs2) : Er K (tM1 (rJoin K) to te) Δ cs R := fun σ G H Q E I q =>
  h σ G H _ E I fun v x cs1 G1 H1 e1 I1 r1 ⟨a, ex, h1⟩ => by
    subst ex
    have ev := r1.raw_inv
    subst ev
    refine ⟨⟨a, rfl⟩, h1 σ G1 H1 _ (E.mono e1) I1 fun w y cs2 G2 H2 e2 I2 r2 ⟨ys, ey, hz, h2⟩ => ?_⟩
    subst ey
    obtain ⟨p, vs, rfl, hp, rs⟩ := r2.lst_inv
    have e : ys.map D.str = (ys.map V.str).map D.raw := by rw [List.map_map]; rfl
    rw [e] at rs
    have ev := Reps.raws rs
    subst ev
    exact ⟨a, p, ys, rfl, rfl, .inl (I2.same.seq hp), hz, (q.mono (e1.trans e2)).now I2 (.raw _) h2⟩
theorem pe_joinJ {X : Cx} {o e : Expr} {to te : TE} {apos pos : Pos} (ho : PE X o to) (he : PE X e te) (hs : starEach [e] X.env = [(false, eval e X.env)] := by rfl) (hbase : attributeBase o "join" X.env (eval o X.env) = eval o X.env := by rfl) (hline : (apos.endLine == pos.line) = true := by rfl) :
    PE X (.Call (.Attribute o "join" apos) [e] [] pos) (tM1 (rJoin X.K) to te) := pe_join ho he hs hbase hline
end
end L3

/-! L3e -/
set_option maxHeartbeats 4000000
namespace L3
open PySem L2
section
variable {K : PySem.W.Frag} {cs : Cells} {R : RK} {d : D} {n : String}
def isIntD : D → Bool
  | .raw (.int _) => true
  | .raw (.bl _) => true
  | _ => false
def isBoolD : D → Bool
  | .raw (.bl _) => true
  | _ => false
def isStrD : D → Bool
  | .raw (.str _) => true
  | _ => false
def isListD : D → Bool
  | .lst _ => true
  | _ => false
def isTupD : D → Bool
  | .tup _ => true
  | _ => false
theorem ki0 : kitB "NoneType" "int" = some false := by decide +kernel
theorem ki1 : kitB "bool" "int" = some true := by decide +kernel
theorem ki2 : kitB "int" "int" = some true := by decide +kernel
theorem ki3 : kitB "str" "int" = some false := by decide +kernel
theorem ki4 : kitB "list" "int" = some false := by decide +kernel
theorem ki5 : kitB "tuple" "int" = some false := by decide +kernel
theorem kb0 : kitB "NoneType" "bool" = some false := by decide +kernel
theorem kb1 : kitB "bool" "bool" = some true := by decide +kernel
theorem kb2 : kitB "int" "bool" = some false := by decide +kernel
theorem kb3 : kitB "str" "bool" = some false := by decide +kernel
theorem kb4 : kitB "list" "bool" = some false := by decide +kernel
theorem kb5 : kitB "tuple" "bool" = some false := by decide +kernel
theorem ks0 : kitB "NoneType" "str" = some false := by decide +kernel
theorem ks1 : kitB "bool" "str" = some false := by decide +kernel
theorem ks2 : kitB "int" "str" = some false := by decide +kernel
theorem ks3 : kitB "str" "str" = some true := by decide +kernel
theorem ks4 : kitB "list" "str" = some false := by decide +kernel
theorem ks5 : kitB "tuple" "str" = some false := by decide +kernel
theorem kl0 : kitB "NoneType" "list" = some false := by decide +kernel
theorem kl1 : kitB "bool" "list" = some false := by decide +kernel
theorem kl2 : kitB "int" "list" = some false := by decide +kernel
theorem kl3 : kitB "str" "list" = some false := by decide +kernel
theorem kl4 : kitB "list" "list" = some true := by decide +kernel
theorem kl5 : kitB "tuple" "list" = some false := by decide +kernel
theorem kt0 : kitB "NoneType" "tuple" = some false := by decide +kernel
theorem kt1 : kitB "bool" "tuple" = some false := by decide +kernel
theorem kt2 : kitB "int" "tuple" = some false := by decide +kernel
theorem kt3 : kitB "str" "tuple" = some false := by decide +kernel
theorem kt4 : kitB "list" "tuple" = some false := by decide +kernel
theorem kt5 : kitB "tuple" "tuple" = some true := by decide +kernel
theorem kit_int (t : TyD K d n) : kitB n "int" = some (isIntD d) := by
  cases t with
  | non => exact ki0
  | bl => exact ki1
  | int => exact ki2
  | str => exact ki3
  | lst => exact ki4
  | tup => exact ki5
theorem kit_bool (t : TyD K d n) : kitB n "bool" = some (isBoolD d) := by
  cases t with
  | non => exact kb0
  | bl => exact kb1
  | int => exact kb2
  | str => exact kb3
  | lst => exact kb4
  | tup => exact kb5
theorem kit_str (t : TyD K d n) : kitB n "str" = some (isStrD d) := by
  cases t with
  | non => exact ks0
  | bl => exact ks1
  | int => exact ks2
  | str => exact ks3
  | lst => exact ks4
  | tup => exact ks5
theorem kit_list (t : TyD K d n) : kitB n "list" = some (isListD d) := by
  cases t with
  | non => exact kl0
  | bl => exact kl1
  | int => exact kl2
  | str => exact kl3
  | lst => exact kl4
  | tup => exact kl5
theorem kit_tup (t : TyD K d n) : kitB n "tuple" = some (isTupD d) := by
  cases t with
  | non => exact kt0
  | bl => exact kt1
  | int => exact kt2
  | str => exact kt3
  | lst => exact kt4
  | tup => exact kt5
theorem oa_isInt (t : TyD K d n) (h : R (.bl (isIntD d)) cs) : Oa K (rIsi K) [d, .raw (.ty "int")] cs R := oa_isi t (kit_int t) h
theorem oa_isBool (t : TyD K d n) (h : R (.bl (isBoolD d)) cs) : Oa K (rIsi K) [d, .raw (.ty "bool")] cs R := oa_isi t (kit_bool t) h
theorem oa_isStr (t : TyD K d n) (h : R (.bl (isStrD d)) cs) : Oa K (rIsi K) [d, .raw (.ty "str")] cs R := oa_isi t (kit_str t) h
theorem oa_isList (t : TyD K d n) (h : R (.bl (isListD d)) cs) : Oa K (rIsi K) [d, .raw (.ty "list")] cs R := oa_isi t (kit_list t) h
theorem oa_isTup (t : TyD K d n) (h : R (.bl (isTupD d)) cs) : Oa K (rIsi K) [d, .raw (.ty "tuple")] cs R := oa_isi t (kit_tup t) h
theorem er_isSeq {te : TE} {Δ : Env} (h : Er K te Δ cs fun d cs1 => ∃ n, TyD K d n ∧ R (.bl (isListD d || isTupD d)) cs1) : Er K (tCB (rIsiT K) (tCons te (tCons (tTup (tCons (tC (.ty "list")) (tCons (tC (.ty "tuple")) tNil))) tNil))) Δ cs R := by
  intro σ G H Q E I q
  refine h σ G H _ E I fun v d cs1 G1 H1 e1 I1 r1 ⟨n, ty, hR⟩ => ?_
  refine ⟨by show 2 ≤ sizeLine; decide, fun p np => ?_⟩
  have n' := I1.same.free np
  refine ⟨v, p, [.ty "list", .ty "tuple"], _, [.type "list", .type "tuple"], isListD d || isTupD d, rfl, upd_same, .cons (.ty "list") (.cons (.ty "tuple") .nil), ty.tyx r1 (I1.same.trans (same_new np)), ?_, (q.mono e1) _ (.bl (isListD d || isTupD d)) cs1 _ _ (same_new (o := .tup [.ty "list", .ty "tuple"]) n') (I1.fresh np) (.raw _) hR⟩
  refine kitAny_cons (kit_ty (kit_list ty)) (fun e => ?_) (fun e => by rw [e]; rfl)
  rw [e, Bool.false_or]
  refine kitAny_cons (kit_ty (kit_tup ty)) (fun e => ?_) (fun e => e)
  rw [e]
  exact kitAny_nil
theorem int_of (h1 : isIntD d = true) (h2 : isBoolD d = false) : ∃ i, d = .int i := by
  match d, h1, h2 with
  | .raw (.int i), _, _ => exact ⟨i, rfl⟩
theorem str_of (h1 : isStrD d = true) : ∃ i, d = .str i := by
  match d, h1 with
  | .raw (.str i), _ => exact ⟨i, rfl⟩
/-! ### texts -/
def sgn (s : Str) : List Nat := s.cps.toList
theorem sgn_inj {a b : Str} (h : sgn a = sgn b) : a = b := by
  obtain ⟨⟨x⟩⟩ := a
  obtain ⟨⟨y⟩⟩ := b
  have e : x = y := h
  rw [e]
theorem sgn_len (s : Str) : (sgn s).length = s.length := by
  show s.cps.toList.length = s.cps.size
  exact Array.length_toList
theorem sgn_mk (l : List Nat) : sgn ⟨l.toArray⟩ = l := rfl
theorem sgn_app (a b : Str) : sgn (a ++ b) = sgn a ++ sgn b := by
  show (a.cps ++ b.cps).toList = _
  simp [sgn]
end
end L3

/-! S0 -/
set_option maxHeartbeats 4000000
namespace L3
open PySem PySem.Spec PyProof.Rows L2
section
variable {P : Program} {w : World} {A : Around} {E : Value → Shared → Prop} {s : Shared}
abbrev nu (w : World) : Obj := { cls := .type "set", dict := none, data := .set #[] 0 (.fresh 0 0 (!w.params.followText "set-order")) }
/-- set(xs) of a list of ints, its table told -/
theorem setOfList {l : Addr} {its : Array Value} (ks : List Int) {Q : Value → Shared → Prop} (hA : A.handled = none)
    (il : s.heap.IsList l its) (ii : IntsAre its.toList ks) (few : ks.length + 1 < scanBound)
    (fin : ∀ (g : Heap) (tk c : Nat), SetR w g s.heap.objs.size (fun j => decide (j ∈ ks)) c → c ≤ ks.length →
      (∀ b o, s.heap.get? b = some o → g.get? b = some o) → Q (.ref s.heap.objs.size) { s with heap := g, toks := tk }) :
    wpAny (model P w) A (call (.type "set") [.ref l]) Q E s := by
  have eL : its.size = ks.length := by
    rw [← Array.length_toList]
    exact IntsAre.length ii
  obtain ⟨c, tl, hmro⟩ := F.called_set.mro
  have m1 := F.called_set.made
  have m2 := F.called_set.sub
  have m3 := F.called_set.notType
  have m4 := F.called_set.canCreate
  have m5 := F.typeCall_set_1 (.ref l)
  refine wpAny_call (codeAny_of_tree ?_)
  show wpAny _ _ (callAny (.type "set") _) _ _ _
  refine wpAny_pure ⟨Code.quiet_builtin _ (by decide +kernel), ?_⟩
  refine codeAny_builtin F.entry_type_call ?_
  rw [Around.under_plain (weight_type_call_type "set" [.ref l] []) rfl]
  repeat (any_goals (first | assumption | wp_step))

  refine codeAny_mono (code_set_led1 (.ref l) (E := E)
    (Q₁ := fun a z => a = .ref s.heap.objs.size ∧ z = { s with heap := s.heap.push (nu w) }) ⟨rfl, rfl⟩) fun r z hr => ?_
  cases r with
  | error e => exact hr
  | ok fl =>
    cases fl with
    | ret obj =>
      obtain ⟨rfl, rfl⟩ := hr
      have g0 : (s.heap.push (nu w)).get? s.heap.objs.size = some (nu w) := Heap.get?_push_size _ rfl
      have tS : Shared.TypeIs { s with heap := s.heap.push (nu w) } (.ref s.heap.objs.size) "set" := ⟨_, g0, rfl⟩
      have k1 := F.called_set.init.lookup
      have k2 := F.called_set.init.bind (.ref s.heap.objs.size)
      repeat (any_goals (first | assumption | wp_step))

      refine codeAny_mono (codeAny_call_builtin (R := wants (fun r z => r = .none ∧ ∃ g tk c, z = { s with heap := g, toks := tk } ∧
          SetR w g s.heap.objs.size (fun j => decide (j ∈ ks)) c ∧ c ≤ ks.length ∧ ∀ b o, s.heap.get? b = some o → g.get? b = some o) E)
        F.called_set.init.plain F.entry_set_init (check_set_init_1 tS ?_)) fun r2 z2 hr2 => ?_
      · obtain ⟨ol, hol, oc, nl, ot⟩ := il
        obtain ⟨c0, d0, t0, s0⟩ := ol
        simp only at oc ot
        subst oc ot
        have hol2 := Heap.get?_push_of_some (nu w) hol
        have q1 := F.sub_list_set
        have q2 := F.sub_list_frozenset
        have q3 : (Value.type "list" == Value.type "dict") = false := by decide
        have il2 : (s.heap.push (nu w)).IsList l its := ⟨_, hol2, rfl, nl, rfl⟩
        unfold Builtin.«set.__init__» noKeywords Builtin.Frozenset.updateFrom
        generalize hPI : pyIter = PI
        wp_walk
        subst hPI

        refine wpAny_pyIter_list il2 ?_
        refine wpAny_bind (wpAny_runValue ?_)
        have hlS : l < s.heap.objs.size := Heap.lt_size hol
        have hA3 : A.in1.in1.in1.handled = none := by simp [hA]
        have neI : l ≠ (s.heap.push (nu w)).objs.size := by
          rw [Heap.size_push]
          exact Nat.ne_of_lt (Nat.lt_succ_of_lt hlS)
        have nS : s.heap.objs.size ∉ [(s.heap.push (nu w)).objs.size, l] := by
          rw [Heap.size_push]
          simp only [List.mem_cons, List.not_mem_nil, or_false, not_or]
          exact ⟨Nat.ne_of_lt (Nat.lt_succ_self _), Nat.ne_of_gt hlS⟩
        have vals : ∀ (i : Nat) (v : Value), its[i]? = some v → ∃ k t, ks[i]? = some k ∧ v = .int k t := fun i v hv => by
          have hi : i < ks.length := by
            rw [← eL]
            exact (Array.getElem?_eq_some_iff.mp hv).1
          obtain ⟨t, e⟩ := PyProof.Rows.IntsAre.int_at ii i v (by rw [Array.getElem?_toList]; exact hv)
          refine ⟨ks[i], t, List.getElem?_eq_getElem hi, ?_⟩
          rw [e, List.getD_eq_getElem?_getD, List.getElem?_eq_getElem hi] <;> rfl
        refine set_update_ints ((Walks.list hA3 _ l neI its).toS) s.heap.objs.size nS ks eL few vals (its.size - 0) 0 _ (by omega) (Nat.zero_le _)
          ⟨⟨_, Heap.get?_push_size _ rfl, rfl, rfl⟩, (il2.push _)⟩ ?kSet ?kEnd
        case kSet => exact ⟨0, Nat.le_refl 0, setR_new_at (Heap.get?_push_of_some _ g0)⟩
        case kEnd =>
          intro z c' hm hc' hS'
          obtain ⟨g, g2, d', tk', os'⟩ := z
          have eg : g2 = s.gens := hm.gens
          have ed : d' = s.drawn := hm.drawn
          have eo : os' = s.os := hm.os
          subst eg ed eo
          show wpAny _ _ _ _ _ _
          refine wpAny_pure ?_
          show wpAny _ _ (ret Value.none) _ _ _
          rw [eL] at hc'
          refine wpAny_pure ⟨rfl, g, tk', c', rfl, hS', hc', fun b o e => ?_⟩
          have lt := Heap.lt_size e
          refine hm.heap b o ?_ (Heap.get?_push_of_some _ (Heap.get?_push_of_some _ e))
          rw [Heap.size_push]
          simp only [List.mem_cons, List.not_mem_nil, or_false, not_or]
          exact ⟨Nat.ne_of_lt lt, Nat.ne_of_lt (Nat.lt_succ_of_lt lt)⟩

      · cases r2 with
        | error e => exact hr2
        | ok f2 =>
          cases f2 with
          | ret r =>
            obtain ⟨rfl, g, tk, c', rfl, hS', hc', hk'⟩ := hr2
            repeat (any_goals (first | assumption | wp_step))
            exact fin _ _ _ hS' hc' hk'
          | _ => exact hr2.elim
    | _ => exact hr.elim
end
end L3

/-! L3f -/
set_option maxHeartbeats 4000000
namespace L3
open PySem L2
/-! ### texts: strip(signs) -/
theorem takeWhile_all {g : Nat → Bool} : ∀ {l : List Nat}, (∀ c ∈ l, g c = true) → l.takeWhile g = l
  | [], _ => rfl
  | a :: r, h => by
    rw [List.takeWhile_cons, if_pos (h a (List.mem_cons_self ..)), takeWhile_all fun c hc => h c (List.mem_cons_of_mem _ hc)]
theorem takeWhile_le {g : Nat → Bool} : ∀ (l : List Nat), (l.takeWhile g).length ≤ l.length
  | [] => Nat.le_refl _
  | a :: r => by
    rw [List.takeWhile_cons]
    split
    · rw [List.length_cons, List.length_cons]
      exact Nat.succ_le_succ (takeWhile_le r)
    · exact Nat.zero_le _
theorem takeWhile_app {g : Nat → Bool} {a : Nat} (h : g a = false) : ∀ (l : List Nat), ((l ++ [a]).takeWhile g).length ≤ l.length
  | [] => by
    show (([a] : List Nat).takeWhile g).length ≤ 0
    rw [List.takeWhile_cons, if_neg (by rw [h]; exact Bool.false_ne_true)]
    exact Nat.le_refl _
  | b :: r => by
    show ((b :: (r ++ [a])).takeWhile g).length ≤ _
    rw [List.takeWhile_cons]
    split
    · rw [List.length_cons, List.length_cons]
      exact Nat.succ_le_succ (takeWhile_app h r)
    · exact Nat.zero_le _
theorem drop_takeWhile {g : Nat → Bool} : ∀ {l : List Nat}, ¬ (∀ c ∈ l, g c = true) → ∃ a r, l.drop (l.takeWhile g).length = a :: r ∧ g a = false
  | [], h => absurd (fun c hc => by cases hc) h
  | b :: r, h => by
    cases hb : g b with
    | false =>
      refine ⟨b, r, ?_, hb⟩
      rw [List.takeWhile_cons, if_neg (by rw [hb]; exact Bool.false_ne_true)]
      rfl
    | true =>
      have h2 : ¬ ∀ c ∈ r, g c = true := fun z => h fun c hc => by
        rcases List.mem_cons.mp hc with e | e
        · rw [e]; exact hb
        · exact z c e
      obtain ⟨a, q, e, ha⟩ := drop_takeWhile h2
      refine ⟨a, q, ?_, ha⟩
      rw [List.takeWhile_cons, if_pos hb]
      exact e
theorem strip_sgn (s y : Str) : sgn (Txt.stripChars s y) = ((sgn s).drop (stripLo y.cps.contains true s)).take (stripHi y.cps.contains true s (stripLo y.cps.contains true s) - stripLo y.cps.contains true s) := by
  have e : Txt.stripChars s y = stripped y.cps.contains true true s := by
    unfold Txt.stripChars Txt.stripBy
    split
    · rename_i h
      simp only [stripSame, Bool.and_eq_true, beq_iff_eq] at h
      show s = Builtin.Str.strSub s (stripLo y.cps.contains true s) (stripHi y.cps.contains true s (stripLo y.cps.contains true s))
      rw [h.2, h.1]
      refine sgn_inj ?_
      show sgn s = (s.cps.extract 0 s.length).toList
      rw [show s.length = s.cps.size from rfl, Array.extract_size] <;> rfl
    · rfl
  rw [e]
  show (s.cps.extract _ _).toList = _
  rw [Array.toList_extract]
  rfl
theorem strip_nil {s y : Str} : sgn (Txt.stripChars s y) = [] ↔ ∀ c ∈ sgn s, y.cps.contains c = true := by
  rw [strip_sgn]
  have elo : stripLo y.cps.contains true s = ((sgn s).takeWhile y.cps.contains).length := by
    unfold stripLo
    rw [if_pos rfl]
    rfl
  constructor
  · intro h
    apply Classical.byContradiction
    intro hn
    obtain ⟨a, r, e, ha⟩ := drop_takeWhile hn
    have ehi : stripHi y.cps.contains true s (stripLo y.cps.contains true s) = s.length - ((a :: r).reverse.takeWhile y.cps.contains).length := by
      unfold stripHi
      rw [if_pos rfl, elo]
      show s.length - (((sgn s).drop _).reverse.takeWhile _).length = _
      rw [e]
    have l1 : ((a :: r).reverse.takeWhile y.cps.contains).length ≤ r.length := by
      rw [List.reverse_cons]
      have := takeWhile_app ha r.reverse
      rw [List.length_reverse] at this
      exact this
    have l2 : (a :: r).length = (sgn s).length - ((sgn s).takeWhile y.cps.contains).length := by rw [← e, List.length_drop]
    rw [List.length_cons, sgn_len] at l2
    rw [elo, e] at h
    have l3 := congrArg List.length h
    rw [List.length_take, List.length_cons, ← elo, ehi, List.length_nil] at l3
    rw [elo] at l3
    omega
  · intro h
    rw [elo, takeWhile_all h, List.drop_length, List.take_nil]
def isStickS (s : Str) : Bool := !(sgn s).isEmpty && (sgn s).all fun c => c == 46 || c == 120
theorem sgn_nil {s : Str} : sgn s = [] ↔ s = "" := by
  constructor
  · intro h
    exact sgn_inj (h.trans rfl)
  · intro h
    rw [h]
    rfl
theorem strip_eq (s : Str) : decide (Txt.stripChars s ".x" = "") = (sgn s).all fun c => c == 46 || c == 120 := by
  have e : Txt.stripChars s ".x" = "" ↔ ((sgn s).all fun c => c == 46 || c == 120) = true := by
    rw [← sgn_nil, strip_nil, List.all_eq_true]
    have hc : ∀ c : Nat, (Str.ofString ".x").cps.contains c = (c == 46 || c == 120) := fun c => by
      show (#[46, 120] : Array Nat).contains c = _
      rw [Bool.eq_iff_iff]
      simp
    constructor
    · intro h c hx
      rw [← hc c]
      exact h c hx
    · intro h c hx
      have := h c hx
      rw [← hc c] at this
      exact this
  cases hb : (sgn s).all fun c => c == 46 || c == 120 with
  | true => exact decide_eq_true (e.mpr hb)
  | false => exact decide_eq_false fun z => by rw [e.mp z] at hb; cases hb
end L3

/-! S1 -/
set_option maxHeartbeats 4000000
namespace L3
open PySem PySem.Spec PyProof.Rows L2
/-! ### sorted(set(xs)) of ints -/
def rSetI (K : PySem.W.Frag) (w : World) : List V → Hp → VK → Prop := fun xs H Q => ∃ (p : Addr) (ns : List Int), xs = [.ref p] ∧ (SqL K H p (ns.map V.int) ∨ SqT K H p (ns.map V.int)) ∧ ns.length ≤ 60 ∧
  ∀ (q : Addr) (n : Nat), H q = none → n ≤ ns.length → Q (.ref q) (upd H q (SetO w q (fun j => decide (j ∈ ns)) n))
theorem intsAre_of : ∀ {ns : List Int} {us : List Value}, Vals (ns.map V.int) us → IntsAre us ns
  | [], _, h => by
    cases h
    exact .nil
  | n :: ns, _, h => by
    cases h with
    | cons r t =>
      obtain ⟨k, rfl⟩ := r
      exact IntsAre.cons _ _ (intsAre_of t)
theorem cr_setI {X : Cx} (hc : X.calm = true) : CallR X (.type "set") (rSetI X.K X.w) := by
  intro pins s σ H xs us Q I r h
  obtain ⟨p, ns, rfl, hp, hl, q⟩ := h
  obtain ⟨u, rfl, ru⟩ := vals1 r
  cases (show u = Value.ref p from ru)
  have few : ns.length + 1 < scanBound := by unfold scanBound; omega
  rcases hp with hp | hp
  · obtain ⟨its, rv, pl, hz⟩ := I.list hp
    refine setOfList ns (I.ok.hd hc) pl.isList (by simpa using intsAre_of rv) few fun g tk c hS hcl hk => ?_
    exact ⟨.ref s.heap.objs.size, _, I.laid (t' := tk) hk (Nat.le_refl _) (setO_new hS), rfl, q _ c (I.hok.fresh (Nat.le_refl _)) hcl⟩
  · obtain ⟨its, rv, pl, hz⟩ := I.tuple hp
    refine call_set_tupI ns (I.ok.hd hc) pl (by simpa using intsAre_of rv) few fun g tk c hS hcl hk => ?_
    exact ⟨.ref s.heap.objs.size, _, I.laid (t' := tk) hk (Nat.le_refl _) (setO_new hS), rfl, q _ c (I.hok.fresh (Nat.le_refl _)) hcl⟩
/-- the ints of a list, ascending, each once -/
def insA (k : Int) : List Int → List Int
  | [] => [k]
  | a :: r => if k < a then k :: a :: r else if k = a then a :: r else a :: insA k r
def asc (l : List Int) : List Int := l.foldr insA []
theorem insA_mem (k : Int) : ∀ {l : List Int} {j : Int}, j ∈ insA k l ↔ j = k ∨ j ∈ l
  | [], j => by simp [insA]
  | a :: r, j => by
    unfold insA
    split
    · simp
    · split
      · rename_i h
        subst h
        simp
      · rw [List.mem_cons, insA_mem k, List.mem_cons]
        constructor
        · rintro (h | h | h)
          · exact .inr (.inl h)
          · exact .inl h
          · exact .inr (.inr h)
        · rintro (h | h | h)
          · exact .inr (.inl h)
          · exact .inl h
          · exact .inr (.inr h)
theorem insA_asc (k : Int) : ∀ {l : List Int}, l.Pairwise (· < ·) → (insA k l).Pairwise (· < ·)
  | [], _ => by simp [insA]
  | a :: r, h => by
    obtain ⟨h1, h2⟩ := List.pairwise_cons.mp h
    unfold insA
    split
    · rename_i hk
      refine List.pairwise_cons.mpr ⟨fun x hx => ?_, h⟩
      rcases List.mem_cons.mp hx with e | e
      · rw [e]; exact hk
      · have := h1 x e
        omega
    · split
      · exact h
      · refine List.pairwise_cons.mpr ⟨fun x hx => ?_, insA_asc k h2⟩
        rcases (insA_mem k).mp hx with e | e
        · omega
        · exact h1 x e
theorem asc_asc : ∀ (l : List Int), (asc l).Pairwise (· < ·)
  | [] => List.Pairwise.nil
  | a :: r => insA_asc a (asc_asc r)
theorem asc_mem : ∀ {l : List Int} {j : Int}, j ∈ asc l ↔ j ∈ l
  | [], j => by simp [asc]
  | a :: r, j => by
    show j ∈ insA a (asc r) ↔ _
    rw [insA_mem, asc_mem, List.mem_cons]
theorem asc_uniq : ∀ {l m : List Int}, l.Pairwise (· < ·) → m.Pairwise (· < ·) → (∀ k, k ∈ l ↔ k ∈ m) → l = m
  | [], [], _, _, _ => rfl
  | [], b :: m, _, _, h => by
    have := (h b).mpr (List.mem_cons_self ..)
    cases this
  | a :: l, [], _, _, h => by
    have := (h a).mp (List.mem_cons_self ..)
    cases this
  | a :: l, b :: m, h1, h2, h => by
    obtain ⟨p1, p2⟩ := List.pairwise_cons.mp h1
    obtain ⟨q1, q2⟩ := List.pairwise_cons.mp h2
    have e : a = b := by
      have ha := (h a).mp (List.mem_cons_self ..)
      have hb := (h b).mpr (List.mem_cons_self ..)
      rcases List.mem_cons.mp ha with e | e
      · exact e
      · rcases List.mem_cons.mp hb with e2 | e2
        · exact e2.symm
        · have := q1 a e
          have := p1 b e2
          omega
    subst e
    rw [asc_uniq p2 q2 fun k => ?_]
    constructor
    · intro hk
      rcases List.mem_cons.mp ((h k).mp (List.mem_cons_of_mem _ hk)) with e | e
      · have := p1 k hk
        omega
      · exact e
    · intro hk
      rcases List.mem_cons.mp ((h k).mpr (List.mem_cons_of_mem _ hk)) with e | e
      · have := q1 k hk
        omega
      · exact e
theorem asc_eq {l m : List Int} (h1 : l.Pairwise (· < ·)) (h : ∀ k, k ∈ l ↔ k ∈ m) : l = asc m := asc_uniq h1 (asc_asc m) fun k => (h k).trans asc_mem.symm
section
variable {K : PySem.W.Frag} {G G' H H' : Hp} {σ : L2.St} {Δ : L3.Env} {cs : Cells} {R : RK} {te : TE} {d : D} {w : World} {ds : List D}
theorem map_int (ns : List Int) : ns.map D.int = (ns.map V.int).map D.raw := by rw [List.map_map]; rfl
theorem er_sortedSet (h : Er K te Δ cs fun d cs1 => ∃ ns : List Int, (d = .lst (ns.map D.int) ∨ d = .tup (ns.map D.int)) ∧ ns.length ≤ 60 ∧ R (.lst ((asc ns).map D.int)) cs1) :
    Er K (tCB (rSortedSet w) (tCons (tCB (rSetI K w) (tCons te tNil)) tNil)) Δ cs R := fun σ G H Q E I q =>
  h σ G H _ E I fun v d cs1 G1 H1 e1 I1 r1 ⟨ns, ed, hl, h1⟩ => by
    have hv : ∃ p, v = .ref p ∧ (SqL K H1 p (ns.map V.int) ∨ SqT K H1 p (ns.map V.int)) := by
      rcases ed with ed | ed
      · subst ed
        obtain ⟨p, vs, rfl, hp, rs⟩ := r1.lst_inv
        rw [map_int] at rs
        have ev := Reps.raws rs
        subst ev
        exact ⟨p, rfl, .inl (I1.same.seq hp)⟩
      · subst ed
        obtain ⟨p, vs, rfl, hp, rs⟩ := r1.tup_inv
        rw [map_int] at rs
        have ev := Reps.raws rs
        subst ev
        exact ⟨p, rfl, .inr (seqT I1.same hp)⟩
    obtain ⟨p, rfl, hp⟩ := hv
    refine ⟨p, ns, rfl, hp, hl, fun a n na hn => ⟨a, _, n, rfl, upd_same, by omega, fun ms b hs hm _ nb => ?_⟩⟩
    have e : ms = asc ns := asc_eq hs fun k => (hm k).trans (by rw [decide_eq_true_iff])
    subst e
    have I2 : Own K G1 (upd H1 a (SetO w a (fun j => decide (j ∈ ns)) n)) cs1 := I1.grown (same_new na)
    have nb' := I2.same.free nb
    refine q (.ref b) _ cs1 _ _ (e1.trans (same_new nb')) (I2.fresh nb) (.lst upd_same ?_) h1
    rw [map_int]
    exact Reps.of_raws _
def rTupOf (K : PySem.W.Frag) : List V → Hp → VK → Prop := fun xs H Q => ∃ p ys, xs = [.ref p] ∧ ((SqL K H p ys ∧ ∀ l, H l = none → Q (.ref l) (upd H l (.tup ys))) ∨ (SqT K H p ys ∧ Q (.ref p) H))
theorem call_tupOf {X : Cx} : CallR X (.type "tuple") (rTupOf X.K) := call_tuple_of
theorem oa_tupL (h : R (.tup ds) cs) : Oa K (rTupOf K) [.lst ds] cs R := fun vs G H Q r I q => by
  obtain ⟨v, rfl, rv⟩ := reps1 r
  obtain ⟨p, ws, rfl, hp, rs⟩ := rv.lst_inv
  refine ⟨p, ws, rfl, .inl ⟨I.same.seq hp, fun l n => ?_⟩⟩
  have n' := I.same.free n
  exact q (.ref l) _ cs _ _ (same_new n') (I.fresh n) (.tup (.inl (.inl upd_same)) (rs.mono (same_new n'))) h
theorem oa_tupT (h : R (.tup ds) cs) : Oa K (rTupOf K) [.tup ds] cs R := fun vs G H Q r I q => by
  obtain ⟨v, rfl, rv⟩ := reps1 r
  obtain ⟨p, ws, rfl, hp, rs⟩ := id rv.tup_inv
  exact ⟨p, ws, rfl, .inr ⟨seqT I.same hp, q.now I rv h⟩⟩
end
end L3

/-! L3g -/
set_option maxHeartbeats 4000000
namespace L3
open PySem L2
def iOr (w1 w2 : TI) : TI := fun σ H R => w1 σ H R ∨ w2 σ H R
theorem pi_or {X : Cx} {tg l : Expr} {w1 w2 : TI} (h1 : PI X tg l w1) (h2 : PI X tg l w2) : PI X tg l (iOr w1 w2) := ⟨fun pins s σ H R I h => by
  rcases h with h | h
  · exact h1.run pins s σ H R I h
  · exact h2.run pins s σ H R I h⟩
section
variable {K : PySem.W.Frag} {G G' H H' : Hp} {σ : L2.St} {Δ : Env} {cs : Cells} {R : RK} {ta tb tc te to : TE} {d x y : D} {ds es : List D} {A : AE} {t : TA}
theorem ei_or1 {w1 w2 : TI} {R : RsK} (h : Ei K w1 Δ cs R) : Ei K (iOr w1 w2) Δ cs R := fun σ G H Rr E I q => .inl (h σ G H Rr E I q)
theorem ei_or2 {w1 w2 : TI} {R : RsK} (h : Ei K w2 Δ cs R) : Ei K (iOr w1 w2) Δ cs R := fun σ G H Rr E I q => .inr (h σ G H Rr E I q)
theorem filter_take {α : Type} {f : α → Bool} {l : List α} {i : Nat} {a : α} (h : l[i]? = some a) : (l.take (i + 1)).filter f = (l.take i).filter f ++ (if f a then [a] else []) := by
  rw [List.take_add_one, h, List.filter_append]
  cases e : f a <;> simp [List.filter, e]
/-- a comprehension whose turn changes nothing -/
theorem er_lcP {wi : TI} {g : TG} {tt : TT} {vs : List Nat} (f : D → Bool) (m : D → D) (hw : TgtIn g vs) (h : Ei K wi Δ cs fun ds cs1 => ds.length ≤ 100000 ∧
    (∀ (i : Nat) (d : D) (acc : List D) (p : Addr), ds[i]? = some d → Gg K g d (wipeE Δ vs) (cs1 ++ [(p, .lst acc)]) fun Δ' cs3 => Et K tt Δ' cs3 fun b cs4 => (b = true → f d = true ∧ Er K te Δ' cs4 fun y cs5 => y = m d ∧ cs5 = cs1 ++ [(p, .lst acc)]) ∧ (b = false → f d = false ∧ cs4 = cs1 ++ [(p, .lst acc)])) ∧
    R (.lst ((ds.filter f).map m)) cs1) : Er K (tLc wi g tt te vs) Δ cs R := by
  refine er_lc hw ?_
  intro σ G H Rr E I q
  refine h σ G H Rr E I fun J ds cs1 G' H' e I' w ⟨hl, ht, hR⟩ => q J ds cs1 G' H' e I' w ⟨fun i acc cs2 => i ≤ ds.length ∧ acc = ((ds.take i).filter f).map m ∧ cs2 = cs1, ⟨Nat.zero_le _, rfl, rfl⟩, ?_, ?_⟩
  · rintro i d acc cs2 p hd ⟨hi, ea, rfl⟩
    have hlt : i < ds.length := (List.getElem?_eq_some_iff.mp hd).1
    intro v σ' G2 H2 Q E2 I2 r q2
    refine ht i d acc p hd v σ' G2 H2 Q E2 I2 r fun σ3 Δ3 cs3 G3 H3 e3 E3 I3 h3 => q2 σ3 Δ3 cs3 G3 H3 e3 E3 I3 ?_
    refine et_mono h3 fun b cs4 ⟨h4, h5⟩ => ⟨fun hb => ?_, fun hb => ?_⟩
    · obtain ⟨eb, h4⟩ := h4 hb
      refine er_mono h4 fun y cs5 ⟨ey, ec5⟩ => ⟨_, ec5, ?_, hlt, ?_, rfl⟩
      · rw [ea, List.length_map]
        have h1 := List.length_filter_le f (ds.take i)
        have h2 := List.length_take_le i ds
        have h3 : (100000 : Nat) < sizeLine := by decide
        omega
      · rw [filter_take hd, eb, ea, ey, if_pos rfl, List.map_append]
        rfl
    · obtain ⟨eb, ec⟩ := h5 hb
      refine ⟨_, ec, hlt, ?_, rfl⟩
      rw [filter_take hd, eb, ea, if_neg Bool.false_ne_true, List.append_nil]
  · rintro acc cs2 ⟨_, ea, rfl⟩
    rw [List.take_length] at ea
    rw [ea]
    exact hR
/-- .. without a test -/
theorem er_lcM {wi : TI} {g : TG} {vs : List Nat} (m : D → D) (hw : TgtIn g vs) (h : Ei K wi Δ cs fun ds cs1 => ds.length ≤ 100000 ∧
    (∀ (i : Nat) (d : D) (acc : List D) (p : Addr), ds[i]? = some d → Gg K g d (wipeE Δ vs) (cs1 ++ [(p, .lst acc)]) fun Δ' cs3 => Er K te Δ' cs3 fun y cs5 => y = m d ∧ cs5 = cs1 ++ [(p, .lst acc)]) ∧
    R (.lst (ds.map m)) cs1) : Er K (tLc wi g tYes te vs) Δ cs R := by
  refine er_lcP (fun _ => true) m hw ?_
  intro σ G H Rr E I q
  refine h σ G H Rr E I fun J ds cs1 G' H' e I' w ⟨hl, ht, hR⟩ => q J ds cs1 G' H' e I' w ⟨hl, ?_, ?_⟩
  · intro i d acc p hd v σ' G2 H2 Q E2 I2 r q2
    refine ht i d acc p hd v σ' G2 H2 Q E2 I2 r fun σ3 Δ3 cs3 G3 H3 e3 E3 I3 h3 => q2 σ3 Δ3 cs3 G3 H3 e3 E3 I3 ?_
    exact et_yes ⟨fun _ => ⟨rfl, h3⟩, fun z => nomatch z⟩
  · rw [List.filter_eq_self.mpr fun _ _ => rfl]
    exact hR
theorem o2_inK {neg : Bool} {v : V} {ws : List V} {a : Addr} (hs : ∀ H : Hp, SqT K H a ws) (h1 : flatV v = true) (h2 : ws.all flatV = true) (h : R (.bl (if neg then !inV v ws else inV v ws)) cs) : O2 K (rIn K neg) (.raw v) (.raw (.ref a)) cs R := fun x y G H Q ra rb I q => by
  have ea := ra.raw_inv
  have eb := rb.raw_inv
  subst ea eb
  exact ⟨a, ws, rfl, .inr (hs H), h1, h2, q.now I (.raw _) h⟩
end
end L3

/-! L3h -/
set_option maxHeartbeats 4000000
namespace L3
open PySem L2
/-! ### the rules with the written part named: for what stands within a comprehension -/
section
variable {X : Cx} {K : PySem.W.Frag}
theorem kop_in (hK : X.K = K) : OpR X (compareOp .In) (rIn K false) := by subst hK; exact op_in_seq
theorem kop_notIn (hK : X.K = K) : OpR X (compareOp .NotIn) (rIn K true) := by subst hK; exact op_notIn_seq
theorem kix_list (hK : X.K = K) : IxR X (rIxL K) := by subst hK; exact ix_list
theorem kix_tup (hK : X.K = K) : IxR X (rIxT K) := by subst hK; exact ix_tup
theorem ksl_list (hK : X.K = K) : SlR X (rSlL K) := by subst hK; exact sl_list
theorem kcall_isi (hK : X.K = K) : CallR X (.builtin "isinstance") (rIsi K) := by subst hK; exact call_isi
theorem kcall_isiT (hK : X.K = K) : CallR X (.builtin "isinstance") (rIsiT K) := by subst hK; exact call_isiT
theorem kcall_len (hK : X.K = K) : CallR X (.builtin "len") (rLenX K) := by subst hK; exact call_lenX
theorem kcr_all (hK : X.K = K) (hc : X.calm = true) : CallR X (.builtin "all") (rAll K) := by subst hK; exact cr_all hc
theorem kcr_any (hK : X.K = K) (hc : X.calm = true) : CallR X (.builtin "any") (rAny K) := by subst hK; exact cr_any hc
theorem kcall_tup (hK : X.K = K) : CallR X (.type "tuple") (rTupOf K) := by subst hK; exact call_tupOf
theorem kcr_setI (hK : X.K = K) (hc : X.calm = true) : CallR X (.type "set") (rSetI K X.w) := by subst hK; exact cr_setI hc
theorem kpi_list {tg l : Expr} {tl : TE} (hK : X.K = K) (hl : PE X l tl) : PI X tg l (iList K tl) := by subst hK; exact pi_list hl
theorem kpi_tup {tg l : Expr} {tl : TE} (hK : X.K = K) (hl : PE X l tl) : PI X tg l (iTup K tl) := by subst hK; exact pi_tup hl
theorem kpi_enum {e : Expr} {ta : TA} {p pos tpos : Pos} {elts : List Expr} {kk : Nat} (hK : X.K = K) (hg : Gl X "enumerate") (hm : X.mg "enumerate" = none) (ha : PA X [e] ta) (hs : starEach [e] X.env = [(false, eval e X.env)] := by rfl) : PI X (.Tuple elts kk tpos) (.Call (.Name "enumerate" p) [e] [] pos) (iEnum K ta) := by
  subst hK
  exact pi_enum hg hm ha hs
theorem kpe_join {o e : Expr} {to te : TE} {apos pos : Pos} (hK : X.K = K) (ho : PE X o to) (he : PE X e te) (hs : starEach [e] X.env = [(false, eval e X.env)] := by rfl) (hbase : attributeBase o "join" X.env (eval o X.env) = eval o X.env := by rfl) (hline : (apos.endLine == pos.line) = true := by rfl) :
    PE X (.Call (.Attribute o "join" apos) [e] [] pos) (tM1 (rJoin K) to te) := by subst hK; exact pe_joinJ ho he hs hbase hline
theorem kpe_fld {e : Expr} {f : Str} {pos : Pos} {ta : TE} (hK : X.K = K) (he : PE X e ta) (hb : attributeBase e f X.env (eval e X.env) = eval e X.env := by rfl) : PE X (.Attribute e f pos) (tFld K ta f) := by subst hK; exact pe_fld he hb
theorem kpg_tup {es : List Expr} {k : Nat} {t : TGs} {n : Nat} {pos : Pos} (hK : X.K = K) (hc : X.calm = true) (h : PGs X es t)
    (hn : (assignEach es X.env).length = n := by rfl) (hst : (assignEach es X.env).findIdx? (·.1) = none := by rfl) : PG X (.Tuple es k pos) (gTup K n t) := by subst hK; exact pg_tup hc h hn hst
theorem kpe_strip {o e : Expr} {to te : TE} {apos cpos : Pos} (hK : X.K = K) (ho : PE X o to) (he : PE X e te)
    (h : PE X (.Call (.Attribute o "strip" apos) [e] [] cpos) (tBM X.K "str" (fun x xs H Q => ∃ a b, x = .str a ∧ xs = [.str b] ∧ a.length ≤ sizeLine ∧ Q (.str (Txt.stripChars a b)) H) to (tCons te tNil))) :
    PE X (.Call (.Attribute o "strip" apos) [e] [] cpos) (tBM K "str" (fun x xs H Q => ∃ a b, x = .str a ∧ xs = [.str b] ∧ a.length ≤ sizeLine ∧ Q (.str (Txt.stripChars a b)) H) to (tCons te tNil)) := by subst hK; exact h
end
end L3

/-! L3i -/
set_option maxHeartbeats 4000000
namespace L3
open PySem L2
section
variable {K : PySem.W.Frag} {Δ : Env} {cs : Cells} {R : RK} {ta tb tc te to : TE} {d x y : D} {A : AE} {t u v : TS} {c : TT}
/-- a test whose answer is told first: if c: t, the rest behind it -/
theorem xs_guard {B : Bool} {C : Cells} (h : Et K c Δ cs fun b cs1 => b = B ∧ cs1 = C) (h1 : B = true → Xs K t { A with nx := fun Δ cs => Xs K u A Δ cs } Δ C) (h2 : B = false → Xs K u A Δ C) : Xs K (tSeq (tIfS c t tNext) u) A Δ cs := by
  refine xs_seq (xs_if (et_mono h ?_))
  rintro b cs1 ⟨rfl, rfl⟩
  exact ⟨h1, fun e => xs_next (h2 e)⟩
/-- if c: t else: v, the rest -/
theorem xs_branch {B : Bool} {C : Cells} (h : Et K c Δ cs fun b cs1 => b = B ∧ cs1 = C) (h1 : B = true → Xs K t A Δ C) (h2 : B = false → Xs K v A Δ C) : Xs K (tIfS c t v) A Δ cs := by
  refine xs_if (et_mono h ?_)
  rintro b cs1 ⟨rfl, rfl⟩
  exact ⟨h1, h2⟩
theorem xs_seqAsg {i : Nat} {C : Cells} (h : Er K te Δ cs fun d' cs1 => d' = d ∧ cs1 = C) (k : Xs K u A (Δ.set i (some d)) C) : Xs K (tSeq (tAsg te (gName i)) u) A Δ cs := by
  refine xs_seq (xs_asg (er_mono h ?_))
  rintro d' cs1 ⟨rfl, rfl⟩
  exact k
/-- the answers of a test, of a value: for what follows -/
theorem et_is {B B' : Bool} (e : B = B') {C : Cells} (h : Et K c Δ cs fun b cs1 => b = B ∧ cs1 = C) : Et K c Δ cs fun b cs1 => b = B' ∧ cs1 = C := e ▸ h
theorem er_is {d d' : D} (e : d = d') {C : Cells} (h : Er K te Δ cs fun b cs1 => b = d ∧ cs1 = C) : Er K te Δ cs fun b cs1 => b = d' ∧ cs1 = C := e ▸ h
theorem et_then {C : Cells} {B : Bool} {R : BK} (h : Et K c Δ cs fun b cs1 => b = B ∧ cs1 = C) (k : R B C) : Et K c Δ cs R := et_mono h fun b cs1 ⟨e1, e2⟩ => by
  rw [e1, e2]
  exact k
theorem er_then {C : Cells} (h : Er K te Δ cs fun b cs1 => b = d ∧ cs1 = C) (k : R d C) : Er K te Δ cs R := er_mono h fun b cs1 ⟨e1, e2⟩ => by
  rw [e1, e2]
  exact k
/-- both parts' answers told -/
theorem et_andP {B B2 : Bool} {c2 : TT} (h1 : Et K c Δ cs fun b cs1 => b = B ∧ cs1 = cs) (h2 : B = true → Et K c2 Δ cs fun b cs1 => b = B2 ∧ cs1 = cs) : Et K (tAnd c c2) Δ cs fun b cs1 => b = (B && B2) ∧ cs1 = cs := by
  refine et_and (et_mono h1 ?_)
  rintro b cs1 ⟨rfl, rfl⟩
  exact ⟨fun e => et_mono (h2 e) fun b cs1 ⟨e1, e2⟩ => ⟨by rw [e1, e, Bool.true_and], e2⟩, fun e => ⟨by rw [e, Bool.false_and], rfl⟩⟩
theorem et_orP {B B2 : Bool} {c2 : TT} (h1 : Et K c Δ cs fun b cs1 => b = B ∧ cs1 = cs) (h2 : B = false → Et K c2 Δ cs fun b cs1 => b = B2 ∧ cs1 = cs) : Et K (tOr c c2) Δ cs fun b cs1 => b = (B || B2) ∧ cs1 = cs := by
  refine et_or (et_mono h1 ?_)
  rintro b cs1 ⟨rfl, rfl⟩
  exact ⟨fun e => ⟨by rw [e, Bool.true_or], rfl⟩, fun e => et_mono (h2 e) fun b cs1 ⟨e1, e2⟩ => ⟨by rw [e1, e, Bool.false_or], e2⟩⟩
theorem et_notP {B : Bool} {C : Cells} (h1 : Et K c Δ cs fun b cs1 => b = B ∧ cs1 = C) : Et K (tNot c) Δ cs fun b cs1 => b = (!B) ∧ cs1 = C := et_not (et_mono h1 fun b cs1 ⟨e1, e2⟩ => ⟨by rw [e1], e2⟩)
end
theorem lv_bool {b : Bool} {p q : Prop} (h1 : b = true → p) (h2 : b = false → q) : ∃ c, D.bl b = D.bl c ∧ (c = true → p) ∧ (c = false → q) := ⟨b, rfl, h1, h2⟩
theorem lv_bl {b : Bool} {p : Bool → Prop} (h : p b) : ∃ c, D.bl b = D.bl c ∧ p c := ⟨b, rfl, h⟩
theorem lv_str {z : Str} {p : Str → Prop} (h : p z) : ∃ c, D.str z = D.str c ∧ p c := ⟨z, rfl, h⟩
theorem lv_int {z : Int} {p : Int → Prop} (h : p z) : ∃ c, D.int z = D.int c ∧ p c := ⟨z, rfl, h⟩
end L3

/-! L3j -/
set_option maxHeartbeats 4000000
namespace L3
open PySem L2
section
variable {K : PySem.W.Frag} {G G' H H' : Hp} {σ : L2.St} {Δ : Env} {cs : Cells} {R : RK} {ta tb tc te to : TE} {d x y : D} {ds es : List D} {A : AE} {t : TA} {u : TS}
/-- cells that are no longer asked for -/
theorem xs_drops (n : Nat) {ts : TS} (h : Xs K ts A Δ (cs.take n)) : Xs K ts A Δ cs := fun σ G H D E I q => h σ G H D E (I.take n) q
theorem er_drops {R : RK} (h : Er K te Δ cs fun d cs1 => ∃ n, R d (cs1.take n)) : Er K te Δ cs R := fun σ G H Q E I q =>
  h σ G H Q E I fun v d cs1 G1 H1 e I1 r1 ⟨n, h1⟩ => q v d _ G1 H1 e (I1.take n) r1 h1
/-- a word between two statements -/
theorem xs_mono {ts : TS} {N' : Env → Cells → Prop} (h : Xs K ts A Δ cs) (k : ∀ Δ cs, A.nx Δ cs → N' Δ cs) : Xs K ts { A with nx := N' } Δ cs := fun σ G H D E I q =>
  h σ G H D E I ⟨fun σ' Δ' cs' G' H' e E' I' n => q.nx σ' Δ' cs' G' H' e E' I' (k _ _ n), q.rt, q.bk, q.ct, q.iv⟩
theorem xs_cut {ts : TS} {M : Env → Cells → Prop} (h : Xs K ts { A with nx := M } Δ cs) (k : ∀ Δ cs, M Δ cs → Xs K u A Δ cs) : Xs K (tSeq ts u) A Δ cs :=
  xs_seq (xs_mono (A := { A with nx := M }) (N' := fun Δ cs => Xs K u A Δ cs) h k)
/-- max, min, abs, int of ints -/
def rMax2 : List V → Hp → VK → Prop := fun xs H Q => ∃ i j, xs = [.int i, .int j] ∧ Q (.int (if j > i then j else i)) H
def rMin2 : List V → Hp → VK → Prop := fun xs H Q => ∃ i j, xs = [.int i, .int j] ∧ Q (.int (if j < i then j else i)) H
def rAbs : List V → Hp → VK → Prop := fun xs H Q => ∃ i, xs = [.int i] ∧ Q (.int (if i < 0 then -i else i)) H
def rInt1 : List V → Hp → VK → Prop := fun xs H Q => (∃ i, xs = [.int i] ∧ Q (.int i) H) ∨ ∃ k, xs = [.bl k] ∧ Q (.int (if k then 1 else 0)) H
theorem kcall_max2 {X : Cx} (hc : X.calm = true) : CallR X (.builtin "max") rMax2 := call_max2 hc
theorem kcall_min2 {X : Cx} (hc : X.calm = true) : CallR X (.builtin "min") rMin2 := call_min2 hc
theorem kcall_abs {X : Cx} : CallR X (.builtin "abs") rAbs := call_abs
theorem kcall_int1 {X : Cx} : CallR X (.type "int") rInt1 := call_int1
theorem oa_max2 {i j : Int} (h : R (.int (if j > i then j else i)) cs) : Oa K rMax2 [.int i, .int j] cs R := oa_V2 (fun H Q q => ⟨i, j, rfl, q⟩) h
theorem oa_min2 {i j : Int} (h : R (.int (if j < i then j else i)) cs) : Oa K rMin2 [.int i, .int j] cs R := oa_V2 (fun H Q q => ⟨i, j, rfl, q⟩) h
theorem oa_abs {i : Int} (h : R (.int (if i < 0 then -i else i)) cs) : Oa K rAbs [.int i] cs R := oa_V1 (fun H Q q => ⟨i, rfl, q⟩) h
theorem oa_intI {i : Int} (h : R (.int i) cs) : Oa K rInt1 [.int i] cs R := oa_V1 (fun H Q q => .inl ⟨i, rfl, q⟩) h
theorem oa_intB {b : Bool} (h : R (.int (if b then 1 else 0)) cs) : Oa K rInt1 [.bl b] cs R := oa_V1 (fun H Q q => .inr ⟨b, rfl, q⟩) h
/-- a, b, c = x, y, z -/
theorem xs_par3 {i j l : Nat} (h : Ea K t Δ cs fun xs cs1 => ∃ x y z, xs = [x, y, z] ∧ A.nx (((Δ.set i (some x)).set j (some y)).set l (some z)) cs1) : Xs K (tPar3 i j l t) A Δ cs := fun σ G H D E I q =>
  h σ G H _ E I fun vs xs cs1 G1 H1 e1 I1 r1 ⟨x, y, z, ex, h1⟩ => by
    subst ex
    cases r1 with
    | cons ra rb =>
      obtain ⟨v, w, rfl, rv, rw'⟩ := reps2 rb
      exact ⟨_, v, w, rfl, q.nx _ _ cs1 G1 H1 e1 ((((E.mono e1).set ra i).set rv j).set rw' l) I1 h1⟩
theorem gg_lst {n : Nat} {gs : TGs} {N : Env → Cells → Prop} (hl : ds.length = n) (h : Ggs K gs ds Δ cs N) : Gg K (gLst K n gs) (.lst ds) Δ cs N := fun v σ G H Q E I r q => by
  obtain ⟨p, vs, rfl, hp, rs⟩ := r.lst_inv
  exact ⟨p, vs, rfl, I.same.seq hp, by rw [rs.length]; exact hl, h vs σ G H Q E I rs q⟩
theorem kpg_lst {X : Cx} {es : List Expr} {k : Nat} {t : TGs} {n : Nat} {pos : Pos} (hK : X.K = K) (hc : X.calm = true) (h : PGs X es t)
    (hn : (assignEach es X.env).length = n := by rfl) (hst : (assignEach es X.env).findIdx? (·.1) = none := by rfl) : PG X (.Tuple es k pos) (gLst K n t) := by subst hK; exact pg_lst hc h hn hst
/-- x is True, x is not True -/
theorem o2_isB {a b : Bool} (h : R (.bl (decide (a = b))) cs) : O2 K rIsB (.bl a) (.bl b) cs R := fun v w G H Q rv rw' I q => ⟨a, b, rv.raw_inv, rw'.raw_inv, q.now I (.raw _) h⟩
theorem o2_notB {a b : Bool} (h : R (.bl (!decide (a = b))) cs) : O2 K rNotB (.bl a) (.bl b) cs R := fun v w G H Q rv rw' I q => ⟨a, b, rv.raw_inv, rw'.raw_inv, q.now I (.raw _) h⟩
/-- xs[::-1] -/
theorem er_revL (h : Er K te Δ cs fun d cs1 => ∃ ds, d = .lst ds ∧ R (.lst ds.reverse) cs1) : Er K (tRevL K te) Δ cs R := fun σ G H Q E I q =>
  h σ G H _ E I fun v d cs1 G1 H1 e1 I1 r1 ⟨ds, ed, h1⟩ => by
    subst ed
    obtain ⟨p, vs, rfl, hp, rs⟩ := r1.lst_inv
    refine ⟨p, vs, rfl, I1.same.seq hp, fun q1 n => ?_⟩
    have n' := I1.same.free n
    exact q (.ref q1) _ cs1 _ _ (e1.trans (same_new n')) (I1.fresh n) (.lst upd_same (rs.reverse.mono (same_new n'))) h1
theorem kpe_revL {X : Cx} {e : Expr} {te : TE} {k : Nat} {p1 p2 p3 pos : Pos} (hK : X.K = K) (he : PE X e te) : PE X (.Subscript e (.Slice none none (some (.UnaryOp .USub (.Constant (.int 1) k p1) p2)) p3) pos) (tRevL K te) := by subst hK; exact pe_revL he
/-- a written dict of two texts, asked for a text -/
theorem er_dict2 {k1 k2 v1 v2 : Str} {ty : TE} (h : Er K ty Δ cs fun d cs1 => ∃ z, d = .str z ∧ ((z = k1 ∧ ¬ k1 = k2 ∧ R (.str v1) cs1) ∨ (z = k2 ∧ ¬ k1 = k2 ∧ R (.str v2) cs1))) : Er K (tDGet (tDisp [(tC (.str k1), tC (.str v1)), (tC (.str k2), tC (.str v2))]) ty) Δ cs R := by
  intro σ G H Q E I q
  intro p np
  have kn : ∀ a b : Str, (Sum.inr a : Key) = Sum.inr b ↔ a = b := fun a b => ⟨fun e => Sum.inr.inj e, fun e => by rw [e]⟩
  have e0 : mergeK [] [((Sum.inr k1 : Key), V.str v1), (Sum.inr k2, V.str v2)] = putK [((Sum.inr k1 : Key), V.str v1)] (Sum.inr k2) (V.str v2) := rfl
  refine ⟨upd_same, [((Sum.inr k1 : Key), V.str v1), (Sum.inr k2, V.str v2)], rfl, by show 2 ≤ 15; decide, ?_⟩
  rw [upd_upd, e0]
  have np' := I.same.free np
  refine h σ _ _ _ (E.mono (same_new np')) (I.fresh np) fun v d cs1 G1 H1 e1 I1 r1 ⟨z, ed, h1⟩ => ?_
  subst ed
  have ev := r1.raw_inv
  subst ev
  have hp : H1 p = some (.dK (putK [((Sum.inr k1 : Key), V.str v1)] (Sum.inr k2) (V.str v2))) := I1.same _ _ (e1 _ _ upd_same)
  have qq := (q.mono (same_new np')).mono e1
  have em : ¬ k1 = k2 → putK [((Sum.inr k1 : Key), V.str v1)] (Sum.inr k2) (V.str v2) = [((Sum.inr k1 : Key), V.str v1), (Sum.inr k2, V.str v2)] := fun ne => by
    unfold putK
    rw [if_neg]
    · rfl
    · simp [ne]
  have g := DGet.k (k := (Sum.inr z : Key)) hp
  rcases h1 with ⟨rfl, ne, h1⟩ | ⟨rfl, ne, h1⟩
  · refine ⟨p, .str v1, rfl, ?_, qq.now I1 (.raw _) h1⟩
    rw [em ne] at g
    have : valV [((Sum.inr z : Key), V.str v1), (Sum.inr k2, V.str v2)] (Sum.inr z) = some (V.str v1) := by simp [valV]
    rw [this] at g
    exact g
  · refine ⟨p, .str v2, rfl, ?_, qq.now I1 (.raw _) h1⟩
    rw [em ne] at g
    have : valV [((Sum.inr k1 : Key), V.str v1), (Sum.inr z, V.str v2)] (Sum.inr z) = some (V.str v2) := by simp [valV, ne]
    rw [this] at g
    exact g
end
end L3

/-! L3k -/
set_option maxHeartbeats 4000000
namespace L3
open PySem PySem.Spec L2
/-! ### == and != of an own class with an own __eq__ and no own __ne__ -/
structure EqCls (K : PySem.W.Frag) (C f N : Addr) : Prop where
  obj : ∃ nm q bs sn sub ab col dd k0 k1 k2 k3 k5, K.lookup C = some (excClassObj nm q C N bs [.type "object"] true sn sub ab col dd k0 k1 k2 k3 k5 "object.__new__")
  ok : PySem.W.nsOkIn K N = true
  eq : PySem.W.nsIn K N "__eq__" = some (some (.ref f))
  ne : PySem.W.nsIn K N "__ne__" = some none
  fn : PySem.W.isFn K (.ref f) = true
  at_ : PySem.W.findIn K (.ref C) "__eq__" = some (some (.ref f))
theorem ns_some_of {K : PySem.W.Frag} {h : Heap} {N : Addr} {mg : Str → Option Value} {n : Str} {v : Value} (X : K.In h) (G : h.Ns N mg) (e : PySem.W.nsIn K N n = some (some v)) : mg n = some v := by
  obtain ⟨o, es, ep, ho, hd, hz, hf⟩ := G
  unfold PySem.W.nsIn at e
  split at e
  · rename_i c d es2 n2 sl q
    have z := X _ _ q
    rw [ho] at z
    cases z
    cases hd
    split at e
    · rename_i ent hent
      cases e
      rw [← hf]
      unfold nsFind
      unfold findBy
      rw [← Array.find?_toList, hent]
      rfl
    · split at e <;> cases e
  · cases e
theorem EqCls.heap {K : PySem.W.Frag} {h : Heap} {C f N x dx : Addr} (E : EqCls K C f N) (X : K.In h) (hx : h.get? x = some (PySem.W.instObj C dx)) : h.OwnEqNoNe x C f "object" [.type "object"] := by
  obtain ⟨nm, q, bs, sn, sub, ab, col, dd, k0, k1, k2, k3, k5, hC⟩ := E.obj
  have hn : h.Ns N (h.nsMap N) := .of_isNs (PySem.W.isNs_of_in X E.ok)
  have e1 : h.nsMap N "__eq__" = some (.ref f) := ns_some_of X hn E.eq
  have e2 : h.nsMap N "__ne__" = none := PySem.W.nsMap_none_of_in X E.ok E.ne
  have hf : ∃ of, h.get? f = some of ∧ of.cls = .type "function" := by
    have e0 := beq_iff_eq.mp E.fn
    have e : (K.lookup f).map (·.cls) = some (Value.type "function") := e0
    cases hl : K.lookup f with
    | none =>
      rw [hl] at e
      cases e
    | some o =>
      rw [hl] at e
      exact ⟨o, X _ _ hl, Option.some.inj e⟩
  obtain ⟨of, h1, h2⟩ := hf
  have hB : ∃ y, typeLookup (.type "object") "__eq__" = pure y := ⟨_, F.cmp_object.eq.lookup⟩
  obtain ⟨y, hB⟩ := hB
  exact ⟨_, of, nm, q, N, bs, true, sn, sub, ab, col, dd, k0, k1, k2, k3, k5, "object.__new__", h.nsMap N, y, hx, rfl, X _ _ hC, hn, e1, h1, h2, F.cmp_object.mro, hB, e2⟩
/-- x != y; sp: what __eq__ promises -/
def rOwnNe (C : Addr) (sp : Sp) : R2 := fun x y H Q => ∃ a b dx dy fs gs, x = .ref a ∧ y = .ref b ∧ H a = some (.ins C dx fs) ∧ H b = some (.ins C dy gs) ∧ sp [.ref a, .ref b] H (fun v H' => ∃ k, v = .bl k ∧ Q (.bl (!k)) H') E0
def rOwnEq (C : Addr) (sp : Sp) : R2 := fun x y H Q => ∃ a b dx dy fs gs, x = .ref a ∧ y = .ref b ∧ H a = some (.ins C dx fs) ∧ H b = some (.ins C dy gs) ∧ sp [.ref a, .ref b] H (fun v H' => ∃ k, v = .bl k ∧ Q (.bl k) H') E0
section
variable {X : Cx} {n : Nat} {C f N : Addr} {fd : FuncData} {ps : List Str} {sp : Sp}
theorem run_eq {A : Around} {pins : List (Addr × Obj)} {s : Shared} {σ : L2.St} {H : Hp} {a b : Addr} {Q : Value → Shared → Prop} {Z : VK} {E : Value → Shared → Prop} (F : FnOk X.prog X.w X.K X.mg X.base CX0 n f fd ps sp) (hb : Binds X.K fd ps []) (hr : Room n A) (hA : A.frames = X.A.frames)
    (I : Inv X pins σ H s) (h : sp [.ref a, .ref b] H Z E0) (k : ∀ v u s' H', Inv X pins σ H' s' → RelV v u → Z v H' → Q u s') : wpAny (model X.prog X.w) A (call (.ref f) [.ref a, .ref b]) Q E s := by
  have e0 : Env0 X.prog X.w X.K X.mg X.base A X.stack s H := by
    have e := I.env0
    exact ⟨by rw [hA]; exact e.frames, e.mod, e.bs, e.bsz, e.funs, e.frf, e.hok, e.bare⟩
  have hl := F.len _ _ _ _ h
  have bb := hb s [.ref a, .ref b] I.kIn (by simpa using hl)
  rw [List.append_nil] at bb
  refine wpAny_call (codeAny_mono (F.run A X.stack s H ⟨[.ref a, .ref b], []⟩ [.ref a, .ref b] [.ref a, .ref b] Z E0 hr e0 bb (.cons rfl (.cons rfl .nil)) h) fun r s' hq => ?_)
  cases r with
  | error e => exact False.elim hq
  | ok fl =>
    cases fl with
    | ret u =>
      obtain ⟨v, H', I', rz, hz⟩ := I.after (Q := Z) hq
      exact k v u s' H' I' rz hz
    | next => exact False.elim hq
    | brk => exact False.elim hq
    | cont => exact False.elim hq
theorem op_ownNe (F : FnOk X.prog X.w X.K X.mg X.base CX0 n f fd ps sp) (E : EqCls X.K C f N) (hb : Binds X.K fd ps []) (hr : Room (n + 1) X.A) (hu : X.A.units + 1 < cLine) : OpR X (compareOp .NotEq) (rOwnNe C sp) := by
  intro pins s σ H x y v u Q I rx ry h
  obtain ⟨a, b, dx, dy, fs, gs, rfl, rfl, ha, hb', hs⟩ := h
  cases rx
  cases ry
  obtain ⟨_, _, _, ga, _⟩ := I.hok a _ ha
  obtain ⟨_, _, _, gb, _⟩ := I.hok b _ hb'
  obtain ⟨hp, g, d, t, os⟩ := s
  refine compareOp_ne_ownEq PySem.F.cmp_object (E.heap I.kIn ga) gb rfl hu ?_
  refine run_eq (A := X.A.in1) F hb (hr.in1) rfl I hs fun v u s' H' I' r ⟨k, ek, hq⟩ => ?_
  subst ek
  cases r
  exact ⟨k, rfl, .bl (!k), H', I', rfl, hq⟩
theorem op_ownEq (F : FnOk X.prog X.w X.K X.mg X.base CX0 n f fd ps sp) (E : EqCls X.K C f N) (hb : Binds X.K fd ps []) (hr : Room n X.A) : OpR X (compareOp .Eq) (rOwnEq C sp) := by
  intro pins s σ H x y v u Q I rx ry h
  obtain ⟨a, b, dx, dy, fs, gs, rfl, rfl, ha, hb', hs⟩ := h
  cases rx
  cases ry
  obtain ⟨mA, J, _⟩ := ins_get I.hok ha
  obtain ⟨mB, J', _⟩ := ins_get I.hok hb'
  obtain ⟨od, J, _⟩ := J.look
  obtain ⟨od', J', _⟩ := J'.look
  obtain ⟨m, hF⟩ := I.fr
  show wpAny (model X.prog X.w) X.A (richCompare .Eq (.ref a) (.ref b)) (EP X pins σ Q) X.xe s
  refine PySem.W.cmp_K (op := .Eq) (tb := .ref C) hr.units0 hF I.ok.mod.kin J J'.type (by simp [PySem.W.notFirst]) E.at_ E.fn ?_
  refine run_eq (A := X.A) F hb hr rfl I hs fun v u s' H' I' r ⟨k, ek, hq⟩ => ?_
  subst ek
  cases r
  exact ⟨.bl k, H', I', rfl, hq⟩
end
section
variable {K : PySem.W.Frag} {cs : Cells} {R : RK} {C : Addr} {ns ms : List Str} {ds es : List D} {F : Tr}
theorem o2_ownNe (h : F [.obj C ns ds, .obj C ms es] cs (fun d cs1 => ∃ k, d = .bl k ∧ R (.bl (!k)) cs1) X0) : O2 K (rOwnNe C (spA K F)) (.obj C ns ds) (.obj C ms es) cs R := fun v w G H Q rv rw' I q => by
  obtain ⟨p, dx, fs, rfl, hp, _⟩ := id rv.obj_inv
  obtain ⟨p2, dx2, fs2, rfl, hp2, _⟩ := id rw'.obj_inv
  refine ⟨p, p2, dx, dx2, fs, fs2, rfl, rfl, I.same _ _ hp, I.same _ _ hp2, G, cs, _, _, X0, I, .cons rv (.cons rw' .nil), h, fun v d cs' G' H' e I' r ⟨k, ek, hk⟩ => ?_, xq0⟩
  subst ek
  exact ⟨k, r.raw_inv, (q.mono e).now I' (.raw _) hk⟩
theorem o2_ownEq (h : F [.obj C ns ds, .obj C ms es] cs (fun d cs1 => ∃ k, d = .bl k ∧ R (.bl k) cs1) X0) : O2 K (rOwnEq C (spA K F)) (.obj C ns ds) (.obj C ms es) cs R := fun v w G H Q rv rw' I q => by
  obtain ⟨p, dx, fs, rfl, hp, _⟩ := id rv.obj_inv
  obtain ⟨p2, dx2, fs2, rfl, hp2, _⟩ := id rw'.obj_inv
  refine ⟨p, p2, dx, dx2, fs, fs2, rfl, rfl, I.same _ _ hp, I.same _ _ hp2, G, cs, _, _, X0, I, .cons rv (.cons rw' .nil), h, fun v d cs' G' H' e I' r ⟨k, ek, hk⟩ => ?_, xq0⟩
  subst ek
  exact ⟨k, r.raw_inv, (q.mono e).now I' (.raw _) hk⟩
end
end L3

/-! L3l -/
set_option maxHeartbeats 4000000
namespace L3
open PySem L2
/-! ### data compared at any depth -/
mutual
def pdD : D → PyData
  | .raw (.bl b) => .bool b
  | .raw (.int i) => .int i
  | .raw (.str s) => .str s
  | .raw _ => .none
  | .tup xs => .tuple (pdL xs)
  | .lst xs => .list (pdL xs)
  | .ro xs => .list (pdL xs)
  | .obj _ _ _ => .none
  | .exc _ _ _ _ => .none
def pdL : List D → List PyData
  | [] => []
  | x :: xs => pdD x :: pdL xs
end
mutual
def okD : D → Bool
  | .raw .non => true
  | .raw (.bl _) => true
  | .raw (.int _) => true
  | .raw (.str _) => true
  | .raw _ => false
  | .tup xs => okL xs
  | .lst xs => okL xs
  | .ro xs => okL xs
  | .obj _ _ _ => false
  | .exc _ _ _ _ => false
def okL : List D → Bool
  | [] => true
  | x :: xs => okD x && okL xs
end
mutual
theorem dp_of {K : PySem.W.Frag} {G H : Hp} (s : Same G H) : ∀ {v : V} {d : D}, Rep K G v d → okD d = true → Dp K H v (pdD d)
  | _, .raw (.bl b), r, _ => by rw [r.raw_inv]; exact .bl b
  | _, .raw (.int b), r, _ => by rw [r.raw_inv]; exact .int b
  | _, .raw (.str b), r, _ => by rw [r.raw_inv]; exact .str b
  | _, .raw .non, r, _ => by rw [r.raw_inv]; exact .non
  | _, .tup xs, r, h => by
    obtain ⟨p, vs, rfl, hp, rs⟩ := r.tup_inv
    exact .tup (seqT s hp) (dpL_of s rs h)
  | _, .lst xs, r, h => by
    obtain ⟨p, vs, rfl, hp, rs⟩ := r.lst_inv
    exact .lst (s.seq hp) (dpL_of s rs h)
  | _, .ro xs, r, h => by
    obtain ⟨p, vs, rfl, hp, rs⟩ := r.ro_inv
    exact .lst (s.seq hp) (dpL_of s rs h)
  | _, .raw (.byt b), r, h => by cases h
  | _, .raw (.flt b), r, h => by cases h
  | _, .raw (.ref b), r, h => by cases h
  | _, .raw (.ty b), r, h => by cases h
  | _, .obj _ _ _, r, h => by cases h
  | _, .exc _ _ _ _, r, h => by cases h
theorem dpL_of {K : PySem.W.Frag} {G H : Hp} (s : Same G H) : ∀ {vs : List V} {ds : List D}, Reps K G vs ds → okL ds = true → DpAll K H vs (pdL ds)
  | _, [], r, _ => by cases r; exact .nil
  | _, x :: xs, r, h => by
    cases r with
    | cons a b =>
      have h1 : (okD x && okL xs) = true := h
      rw [Bool.and_eq_true] at h1
      exact .cons (dp_of s a h1.1) (dpL_of s b h1.2)
end
section
variable {K : PySem.W.Frag} {cs : Cells} {R : RK} {x y : D}
theorem o2_eqD (hx : okD x = true) (hy : okD y = true) (sx : SeqAt.shaped (pdD x) = true) (sy : SeqAt.shaped (pdD y) = true) (h : R (.bl (PyData.eqv (pdD x) (pdD y))) cs) : O2 K (rEqD K) x y cs R := fun v w G H Q rv rw' I q =>
  ⟨_, _, dp_of I.same rv hx, dp_of I.same rw' hy, sx, sy, q.now I (.raw _) h⟩
theorem o2_neD (hx : okD x = true) (hy : okD y = true) (sx : SeqAt.shaped (pdD x) = true) (sy : SeqAt.shaped (pdD y) = true) (h : R (.bl (!PyData.eqv (pdD x) (pdD y))) cs) : O2 K (rNeD K) x y cs R := fun v w G H Q rv rw' I q =>
  ⟨_, _, dp_of I.same rv hx, dp_of I.same rw' hy, sx, sy, q.now I (.raw _) h⟩
theorem kop_eqD {X : Cx} (hK : X.K = K) (hu : X.A.units + 64 < cLine) : OpR X (compareOp .Eq) (rEqD K) := by subst hK; exact op_eqD hu
theorem kop_neD {X : Cx} (hK : X.K = K) (hu : X.A.units + 64 < cLine) : OpR X (compareOp .NotEq) (rNeD K) := by subst hK; exact op_neD hu
theorem okL_ints : ∀ (ns : List Int), okL (ns.map D.int) = true
  | [] => rfl
  | _ :: r => okL_ints r
theorem pdL_ints : ∀ (ns : List Int), pdL (ns.map D.int) = ns.map PyData.int
  | [] => rfl
  | n :: r => by
    show PyData.int n :: pdL (r.map D.int) = _
    rw [pdL_ints r]
    rfl
theorem shaped_ints (ns : List Int) : SeqAt.shaped (.tuple (ns.map PyData.int)) = true := by
  have h1 : ∀ l : List Int, PyData.canLayAll0 (l.map PyData.int) = true := by
    intro l
    induction l with
    | nil => rfl
    | cons a r ih => exact ih
  have h2 : ∀ l : List Int, PyData.depthAll (l.map PyData.int) = 0 := by
    intro l
    induction l with
    | nil => rfl
    | cons a r ih =>
      show max 0 (PyData.depthAll (r.map PyData.int)) = 0
      rw [ih]
      rfl
  unfold SeqAt.shaped
  show (PyData.canLayAll0 (ns.map PyData.int) && decide (PyData.depthAll (ns.map PyData.int) + 1 ≤ 64)) = true
  rw [h1, h2]
  rfl
theorem eqv_ints : ∀ (ns ms : List Int), PyData.eqvAll (ns.map PyData.int) (ms.map PyData.int) = decide (ns = ms)
  | [], [] => rfl
  | [], _ :: _ => rfl
  | _ :: _, [] => rfl
  | a :: r, b :: q => by
    show ((a == b) && PyData.eqvAll (r.map PyData.int) (q.map PyData.int)) = _
    rw [eqv_ints r q, Bool.eq_iff_iff]
    simp
/-- isinstance(x, C) of an object of C -/
structure IsiC (K : PySem.W.Frag) (C : Addr) : Prop where
  cl : Cls K C
  ha : PySem.W.findIn K (.ref C) "__class__" = some (some (.builtin "object.__class__"))
  hn : PySem.W.specialIn K (.builtin "object.__class__") "__get__" = some (some (.builtin "getset_descriptor.__get__"))
  ht : PySem.W.takesIn K (.builtin "object.__class__") = some true
  hm : PySem.W.mroIn K C (.type "object") = some true
  self : PySem.W.kitOne K (.ref C) (.ref C) = some true
theorem oa_isiC {C : Addr} {ns : List Str} {ds : List D} (E : IsiC K C) (h : R (.bl true) cs) : Oa K (rIsi K) [.obj C ns ds, .raw (.ref C)] cs R := fun vs G H Q r I q => by
  obtain ⟨v, w, rfl, rv, rw'⟩ := reps2 r
  obtain ⟨p, dx, fs, rfl, hp, _⟩ := rv.obj_inv
  rw [rw'.raw_inv]
  exact ⟨.ref p, .ref C, .ref C, .ref C, true, rfl, .own C, .base (.ins (I.same _ _ hp) E.cl E.ha E.hn E.ht E.hm), E.self, q.now I (.raw _) h⟩
end
/-- a class's own names are all texts -/
def strKeys (es : List DictEntry) : Bool := es.all fun e => match e.key with
  | .str _ _ => true
  | _ => false
theorem nsOk_of {K : PySem.W.Frag} {N : Addr} {c : Value} {d : Option Addr} {es : Array DictEntry} {n : Nat} {sl : Array (Option Value)} (h : K.lookup N = some ⟨c, d, .dict es n, sl⟩) (e : strKeys es.toList = true) : PySem.W.nsOkIn K N = true := by
  have e2 : (es.toList.all fun e => match e.key with | .str _ _ => true | _ => false) = true := e
  unfold PySem.W.nsOkIn
  rw [h]
  show (es.all fun e => match e.key with | .str _ _ => true | _ => false) = true
  rw [← Array.all_toList]
  exact e2
end L3

/-! L3m -/
set_option maxHeartbeats 4000000
namespace L3
open PySem PySem.Spec PyProof.Rows L2
/-! ### raise C(), C an own class that has no __init__ of its own -/
section
variable {X : Cx} {C : Addr} {bmB : List Value} {B newId initId : String} {x : Str} {W : WX} {p pos pos2 : Pos}
def tRaise0 (C : Addr) (W : WX) : TS := fun _ σ H => W (.ref C) none σ H
theorem mk_noarg (F : ExcBaseFacts B newId initId bmB) (q : PySem.W.excIn X.K C bmB newId = true) (gC : X.mg x = some (.ref C)) (kC : PySem.W.keepIn X.K (.ref C) = true) (r : Raises X (.ref C)) (hg : Gl X x)
    (hdb : (x == ("__debug__" : Str)) = false) : PMk X (.Call (.Name x p) [] [] pos) (fun _ H Q => Q (.ref C) none H) := by
  intro pins s σ H Q I hQ
  refine wpAny_Call_Name_kw (ld_glob I hg gC (PySem.W.callWith_K0 I.kIn kC ?_) hdb)
  have z := exc_obj I.kIn q
  obtain ⟨_, _, _, _, _, _, _, _, _, _, _, _, _, _, _, _, _, a, b, c, T⟩ := z
  exact wpAny_call_exc_subT F T a b c (fun _ _ m => mk_of I m r hQ (I.hok.gone m.new)) (Nat.zero_le _)
theorem ps_raise0 (hc : X.calm = true) (tk : Takes X W) (F : ExcBaseFacts B newId initId bmB) (q : PySem.W.excIn X.K C bmB newId = true) (gC : X.mg x = some (.ref C)) (kC : PySem.W.keepIn X.K (.ref C) = true)
    (h1 : PySem.W.subIn X.K (.ref C) (.type "BaseException") = some true) (h2 : PySem.W.typeIn X.K (.ref C) = some (.type "type")) (hg : Gl X x := by rfl)
    (hdb : (x == ("__debug__" : Str)) = false := by decide) : PS X (.Raise (some (.Call (.Name x p) [] [] pos)) none pos2) (tRaise0 C W) :=
  ps_raise hc tk (mk_noarg F q gC kC (raises_own h1 h2) hg hdb)
end
section
variable {K : PySem.W.Frag} {Δ : Env} {cs : Cells} {A : AE} {X : XA} {E : XK} {C : Addr}
theorem xs_raise (hiv : ∀ G, A.iv G → XQ K G X E) (h : X (.ref C) [] cs) : Xs K (tRaise0 C fun cls d _ H => E cls d H) A Δ cs := fun σ G H D Ev I q =>
  hiv G (q.iv G (Same.refl G)) _ none [] cs G H (Same.refl G) I (.inl ⟨rfl, rfl⟩) h
end
theorem pass_never {P : Program} {w : World} {X : Cx} : Passes (L2.CX P w) X E0 := fun _ _ _ _ _ _ _ ⟨_, _, _, _, _, _, _, _, _, _, _, _, e⟩ => e.elim
/-! ### o.m(e, ..) in a try's body: its exceptions are wished for at the slots -/
def tMethW (C : Addr) (m : Str) (sp : Sp) (E : L2.St → XK) (ta : TE) (t : TA) : TE := fun σ H Q => ta σ H fun x H1 => ∃ a dx fs, x = .ref a ∧ H1 a = some (.ins C dx fs) ∧ fs.lookup m = none ∧ t σ H1 fun vs H2 => sp (.ref a :: vs) H2 Q (E σ)
section
variable {X : Cx} {CX : CXT} {k : Nat} {f C : Addr} {fd : FuncData} {ps : List Str} {sp : Sp} {E : L2.St → XK} {m : Str} {pos apos : Pos} {e o : Expr} {es : List Expr} {ta : TE} {t : TA}
theorem pe_methW {pl : Sem Bool} (he : PE X o ta) (c : Cls X.K C) (hm : Meth X.K C m f) (F : FnOk X.prog X.w X.K X.mg X.base CX k f fd ps sp) (hr : Room k X.A) (hb : Binds X.K fd ps []) (hx : ∀ σ, PassesAt CX X σ (E σ)) (ha : PA X (e :: es) t)
    (hst : starEach (e :: es) X.env = (false, eval e X.env) :: starEach es X.env := by rfl) (hpl : (backTo pos (starEach es X.env)).any (·.1) = false := by rfl)
    (ht : eval (.Call (.Attribute o m apos) (e :: es) [] pos) X.env = (eval o X.env >>= fun ov => standAt apos.atName >>= fun _ => holding [ov] (getMethod ov m pl) >>= fun fp =>
      callWith pos fp.1 fp.2 (backTo pos (starEach (e :: es) X.env)) (backToKw pos (keywordEach [] X.env))) := by rfl) :
    PE X (.Call (.Attribute o m apos) (e :: es) [] pos) (tMethW C m sp E ta t) := by
  refine ⟨fun pins s σ H Q I h => PySem.W.methodCall_KW (pl := pl) (thn (he.run pins s σ H _ I h) fun u s1 hh => ?_) ht⟩
  obtain ⟨x, H1, I1, rx, a, dx, fs, rfl, ea, l, q⟩ := hh
  have eu : u = Value.ref a := rx
  subst eu
  refine getmeth_ok I1 ea c hm l (PySem.W.callWith_K (first := [.ref a]) (h₀ := X.base) I.ok.mod.kin hm.kp (thn (ha.run pos pins s1 σ H1 _ I1 q) fun us s2 h2 => ?_) hst hpl)
  obtain ⟨vs, H2, I2, r, q2⟩ := h2
  exact ⟨I2.kIn, run_fnS (us := .ref a :: us) (vs := .ref a :: vs) F hr hb (hx σ) I2 (.cons rfl r) q2⟩
end
section
variable {K : PySem.W.Frag} {Δ : Env} {cs : Cells} {A : AE} {C : Addr} {m : Str} {F : Tr} {ta : TE} {t : TA} {i j : Nat} {c : Value} {ts : Addr → Value → Option Addr → TS}
/-- j = o.m(e, ..), under except c as i: ts -/
theorem xs_tryMeth (h : Er K ta Δ cs fun x cs1 => ∃ ns ds, x = .obj C ns ds ∧ m ∉ ns ∧ Ea K t Δ cs1 fun xs cs2 => F (x :: xs) cs2 (fun d cs' => A.nx (Δ.set j (some d)) cs')
    (fun cls pl cs' => pl = [] ∧ PySem.W.exmOne K cls c = some true ∧ ∀ a, Xs K (ts a cls none) { A with nx := fun Δ' cs' => A.nx (Δ'.set i none) cs', bk := fun Δ' cs' => A.bk (Δ'.set i none) cs', ct := fun Δ' cs' => A.ct (Δ'.set i none) cs' } (Δ.set i (some (.raw (.ref a)))) cs')) :
    Xs K (fun D σ H => tAsg (tMethW C m (spA K F) (WE (wAs K c i ts (fun _ _ _ _ => False) D)) ta t) (gName j) D σ H) A Δ cs := fun σ G H D Ev I q =>
  h σ G H _ Ev I fun v x cs1 G1 H1 e1 I1 r1 ⟨ns, ds, ex, hm, h1⟩ => by
    subst ex
    obtain ⟨p, dx, fs, rfl, hp, hn, rs⟩ := id r1.obj_inv
    refine ⟨p, dx, fs, rfl, I1.same _ _ hp, lookup_none (by rw [hn]; exact hm), ?_⟩
    refine h1 σ G1 H1 _ (Ev.mono e1) I1 fun vs xs cs2 G2 H2 e2 I2 r2 h2 => ⟨G2, cs2, _, _, _, I2, .cons (r1.mono e2) r2, h2, fun v d cs' G' H' e I' r hd => ?_, fun cls d pl cs' G' H' e I' x ⟨ep, hx, hs⟩ => ?_⟩
    · exact q.nx _ _ cs' G' H' ((e1.trans e2).trans e) ((Ev.mono ((e1.trans e2).trans e)).set r j) I' hd
    · refine ⟨true, hx, fun _ a na => ?_, fun z => absurd z.symm Bool.false_ne_true⟩
      have ed : d = none := by
        rcases x with ⟨ed, _⟩ | ⟨_, _, x, _⟩
        · exact ed
        · exact absurd ep x
      subst ed
      have e3 := (e1.trans e2).trans e
      refine hs a _ G' H' _ ((Ev.mono e3).set (.raw _) i) I' ⟨?_, q.rt.mono e3, ?_, ?_, fun G9 e9 => q.iv G9 (e3.trans e9)⟩
      · intro σ' Δ' cs5 G5 H5 e5 E5 I5 n5
        exact q.nx _ _ cs5 G5 H5 (e3.trans e5) (E5.none i) I5 n5
      · intro σ' Δ' cs5 G5 H5 e5 E5 I5 n5
        exact q.bk _ _ cs5 G5 H5 (e3.trans e5) (E5.none i) I5 n5
      · intro σ' Δ' cs5 G5 H5 e5 E5 I5 n5
        exact q.ct _ _ cs5 G5 H5 (e3.trans e5) (E5.none i) I5 n5
end
section
variable {X : Cx} {P : Prop} {ss : List Stmt} {t : TS}
/-- a suite that is read for one class alone -/
theorem pss_pre (h : P → PSs X ss t) : PSs X ss (fun D σ H => P ∧ t D σ H) := ⟨fun pins s σ H D I ⟨hp, q⟩ => (h hp).run pins s σ H D I q⟩
def rReprB : List V → Hp → VK → Prop := fun xs H Q => ∃ b, xs = [.bl b] ∧ Q (.str (if b then "True" else "False")) H
theorem call_reprB : CallR X (.builtin "repr") rReprB := by
  intro pins s σ H xs us Q I r h
  obtain ⟨b, rfl, q⟩ := h
  obtain ⟨u, rfl, e⟩ := vals1 r
  have eu : u = Value.bool b := e
  subst eu
  exact PySem.P.repr_of_bool ⟨.str _, H, I.tok _, ⟨_, rfl⟩, q⟩
end
section
variable {K : PySem.W.Frag} {cs : Cells} {R : RK} {C D a : Addr} {b : Bool} {Δ : Env} {A : AE} {P : Prop} {t : TS}
theorem oa_reprB (h : R (.str (if b then "True" else "False")) cs) : Oa K rReprB [.bl b] cs R := oa_V1 (fun H Q q => ⟨b, rfl, q⟩) h
theorem oa_isE (e : PySem.W.kitOne K (.ref D) (.ref C) = some b) (h : R (.bl b) cs) : Oa K (rIsE K D a) [.raw (.ref a), .raw (.ref C)] cs R :=
  oa_V2 (v := .ref C) (fun H Q q => ⟨.ref C, .ref C, b, rfl, fun u r => r, e, q⟩) h
theorem xs_pre (hp : P) (h : Xs K t A Δ cs) : Xs K (fun D σ H => P ∧ t D σ H) A Δ cs := fun σ G H D E I q => ⟨hp, h σ G H D E I q⟩
theorem kit_own (h : PySem.W.hasDictIn K C = true) (ht : PySem.W.typeIn K (.ref C) = some (.type "type")) (hs : PySem.W.subIn K (.ref D) (.ref D) = some true) (e : PySem.W.subIn K (.ref D) (.ref C) = some b) : PySem.W.kitOne K (.ref D) (.ref C) = some b := by
  unfold PySem.W.kitOne
  split
  · rename_i q
    have q2 : Value.ref D = Value.ref C := beq_iff_eq.mp q
    rw [← q2, hs] at e
    exact e
  · obtain ⟨cd, hc, _⟩ := PySem.W.any_some h
    unfold PySem.W.kitCls
    show (if ((PySem.W.clsIn K C).isSome && PySem.W.typeIn K (.ref C) == some (.type "type")) = true then _ else _) = _
    rw [if_pos (by rw [hc, ht] <;> rfl)]
    exact e
end
end L3

/-! L3n -/
set_option maxHeartbeats 4000000
namespace L3
open PySem PySem.Spec PyProof.Rows L2
/-! ### enumerate(text) -/
def Ites (x : Str) : It := ⟨fun i _ => i < x.cps.size, fun i H v H' => ∃ T c, v = .ref T ∧ H T = none ∧ x.cps[i]? = some c ∧ H' = upd H T (.tup [.int (i : Nat), .str ⟨#[c]⟩]), fun i _ => i = x.cps.size⟩
theorem turn_enumS {P : Program} {w : World} {K : PySem.W.Frag} {elts : List Expr} {kk : Nat} {tpos : Pos} (x : Str) (t : Tok) (e it : Addr) :
    Turn P w K (.Tuple elts kk tpos) (Ites x) [e, it] e (fun i h => (∃ old, IsEnum h e it ((i : Nat) : Int) old) ∧ h.IsStrIter it (strIterType x) x t i ∧ e ≠ it) where
  mem := by simp
  obj := fun i h st b hb => by
    obtain ⟨⟨old, he⟩, ⟨o, ho, hc, hd⟩, _⟩ := st
    have e' : b = e ∨ b = it := by simpa using hb
    rcases e' with z | z
    · rw [z]; exact ⟨_, he, fun v q => nomatch q⟩
    · rw [z]; exact ⟨o, ho, fun v q => by rw [hd] at q; cases q⟩
  keep := fun i h h' st k => let ⟨⟨old, he⟩, ⟨o, ho, r⟩, hne⟩ := st; ⟨⟨old, k e (by simp) _ he⟩, ⟨o, k it (by simp) o ho, r⟩, hne⟩
  item := by
    intro X hP hw hK hc i pins s σ H E I hf st hg
    subst hP hw hK
    obtain ⟨⟨old, he⟩, hit, hne⟩ := st
    have hel : e < s.heap.objs.size := Heap.lt_size he
    have hil : it < s.heap.objs.size := by obtain ⟨_, q, _⟩ := hit; exact Heap.lt_size q
    have hh : X.A.in1.handled = none := I.ok.hd hc
    refine wpAny_pyNext_enum_itemD (Draws.text hh it x t) he hit hg hne (by simp [hne]) fun u h' tk hP ho hit' hT hsz hk => ?_
    obtain ⟨c, tu, hcx, rfl⟩ := hP
    refine ⟨_, rfl, wpAny_letOwnedTupleGo_enum (s := { s with heap := h', toks := tk + 1 }) ho fun h'' he' sb => ?_⟩
    have hT2 : h''.get? s.heap.objs.size = some { cls := .type "tuple", data := .seq #[.int i tk, .str ⟨#[c]⟩ tu] } := (sb.2 _ (Nat.ne_of_gt hel)).trans hT
    have new : ObjOk X.prog X.w (upd H s.heap.objs.size (.tup [.int (i : Nat), .str ⟨#[c]⟩])) h'' s.heap.objs.size (.tup [.int (i : Nat), .str ⟨#[c]⟩]) :=
      ⟨by show 2 ≤ sizeLine; decide, [.int i tk, .str ⟨#[c]⟩ tu], .cons ⟨_, rfl⟩ (.cons ⟨_, rfl⟩ .nil), ⟨_, hT2, rfl, _, rfl⟩⟩
    have I1 : Inv X pins σ (upd H s.heap.objs.size (.tup [.int (i : Nat), .str ⟨#[c]⟩])) { s with heap := h'', toks := tk + 1 } :=
      I.turnedNew (ch := [e, it]) (fun b ob hb q => (sb.2 b (fun z => hb (by simp [z]))).trans (hk b ob (fun z => hb (by simp [z])) (fun z => hb (by simp [z])) q)) hf (Nat.le_refl _) new
    refine ⟨.ref s.heap.objs.size, _, I1, rfl, ⟨_, c, rfl, I.hok.fresh (Nat.le_refl _), hcx, rfl⟩, ⟨⟨.str ⟨#[c]⟩ tu, ?_⟩, ?_, hne⟩, fun b hb => ?_⟩
    · have e1 : ((i + 1 : Nat) : Int) = (i : Int) + 1 := by omega
      rw [e1]; exact he'
    · obtain ⟨o, ho2, r⟩ := hit'
      exact ⟨o, (sb.2 it (Ne.symm hne)).trans ho2, r⟩
    · have hb' : b < s.heap.objs.size := by
        have e' : b = e ∨ b = it := by simpa using hb
        rcases e' with z | z
        · rw [z]; exact hel
        · rw [z]; exact hil
      rw [upd_ne (Nat.ne_of_lt hb')]
      exact (hf b hb).1
  done := by
    intro X hP hw hK hc i pins s σ H E I hf st hg
    subst hP hw hK
    obtain ⟨⟨old, he⟩, hit, hne⟩ := st
    obtain ⟨f0, f1, f2, f3, f4, f5⟩ := hf it (by simp)
    have hh : X.A.in1.handled = none := I.ok.hd hc
    have hg' : i = x.cps.size := hg
    rw [hg'] at hit
    exact wpAny_pyNext_enum_endD (Draws.text hh it x t) he hit fun h' eb => ⟨rfl, I.turned (t' := s.toks) (fun b o hb q => eb b o hb q) f0 f1 f3 f4 f5⟩
  self := fun A i s Q E st h => let ⟨⟨_, he⟩, _⟩ := st; wpAny_pyIter_enum he h
def iEnumS (ta : TA) : TI := fun σ H R => ta σ H fun vs H1 => ∃ x, vs = [.str x] ∧ R (Ites x) H1
theorem pi_enumS {X : Cx} {e : Expr} {ta : TA} {p pos tpos : Pos} {elts : List Expr} {kk : Nat} (hg : Gl X "enumerate") (hm : X.mg "enumerate" = none) (ha : PA X [e] ta) (hs : starEach [e] X.env = [(false, eval e X.env)] := by rfl) :
    PI X (.Tuple elts kk tpos) (.Call (.Name "enumerate" p) [e] [] pos) (iEnumS ta) := by
  refine ⟨fun pins s σ H R I h => ?_⟩
  refine Call_ (ld_blt I hg hm boot_enumerate (PyProof.Rows.callWith_type1 (thn (ha.run pos pins s σ H _ I h) fun us s1 ⟨vs, H1, I1, r1, q1⟩ => ?_) hs rfl))
  obtain ⟨x, ex, q⟩ := q1
  subst ex
  cases r1 with
  | cons r rr =>
    cases rr
    obtain ⟨t, rfl⟩ := r
    refine call_enumerate_str fun h' he hit hsz hk => wpAny_pyIter_enum he ?_
    have I2 : Inv X pins σ H1 { s1 with heap := h' } := I1.kept (t' := s1.toks) hk
    refine ⟨s1.heap.objs.size + 1, [s1.heap.objs.size + 1, s1.heap.objs.size], _, _, H1, rfl, I2, turn_enumS x t (s1.heap.objs.size + 1) s1.heap.objs.size, ⟨⟨.none, he⟩, hit, Nat.succ_ne_self _⟩, fun b hb => ?_, q⟩
    have e' : b = s1.heap.objs.size + 1 ∨ b = s1.heap.objs.size := by simpa using hb
    have hle : s1.heap.objs.size ≤ b := by
      rcases e' with z | z
      · rw [z]; exact Nat.le_add_right _ _
      · rw [z]; exact Nat.le_refl _
    exact I1.fpOk hle (I1.hok.fresh hle)
/-! ### text.count(text), sum -/
def rCount : V → List V → Hp → VK → Prop := fun x xs H Q => ∃ a b, x = .str a ∧ xs = [.str b] ∧ Q (.int (Txt.count a b)) H
theorem pe_count {X : Cx} {o e : Expr} {to te : TE} {apos pos : Pos} (ho : PE X o to) (he : PE X e te) (hs : starEach [e] X.env = [(false, eval e X.env)] := by rfl) (hbase : attributeBase o "count" X.env (eval o X.env) = eval o X.env := by rfl) (hline : (apos.endLine == pos.line) = true := by rfl) :
    PE X (.Call (.Attribute o "count" apos) [e] [] pos) (tM1 rCount to te) := pe_m1 PySem.F.slot_str_count PySem.F.type_str_count mt_count ho he hs hbase hline
def rSumI (K : PySem.W.Frag) : List V → Hp → VK → Prop := fun vs H Q => ∃ (a : Addr) (ns : List Int), vs = [V.ref a] ∧ SqL K H a (ns.map V.int) ∧ Q (.int ns.sum) H
theorem kcr_sum {X : Cx} {K : PySem.W.Frag} (hK : X.K = K) (hc : X.calm = true) : CallR X (.builtin "sum") (rSumI K) := by subst hK; exact cr_sum hc
/-! ### raise C(e), C an own class whose __init__ keeps its one argument -/
/-- what such an __init__ promises -/
def spErr (C : Addr) (f : Str) : Sp := fun vs H Q _ => ∃ a v, vs = [.ref a, v] ∧ H a = some (exo a C none) ∧ ∀ d, H d = none → d ≠ a → Q .non (upd (upd H d (exd d [(f, v)])) a (exo a C (some d)))
theorem spErr_len (C : Addr) (f : Str) : ∀ vs H Q E, spErr C f vs H Q E → vs.length = 2 := fun vs H Q E ⟨_, _, e, _⟩ => by rw [e]; rfl
def tRaiseF (C : Addr) (f : Str) (ta : TA) (W : WX) : TS := fun _ σ H => tMkO C (spErr C f) [] ta σ H fun cls d H' => W cls d σ H'
section
variable {K : PySem.W.Frag} {G G' H H' : Hp} {σ : L2.St} {Δ : Env} {cs : Cells} {R : RK} {ta tb tc te to : TE} {d x y : D} {ds es : List D} {A : AE} {t : TA} {u : TS}
/-! ### range(i, j) -/
def rangeD2 (i : Int) (n : Nat) : List D := (List.range n).map fun (k : Nat) => D.int (i + k)
theorem rangeD2_len (i : Int) (n : Nat) : (rangeD2 i n).length = n := by simp [rangeD2]
theorem rangeD2_get {j : Int} {n i : Nat} {d : D} (h : (rangeD2 j n)[i]? = some d) : i < n ∧ d = .int (j + i) := by
  unfold rangeD2 at h
  rw [List.getElem?_map] at h
  cases e : (List.range n)[i]? with
  | none => rw [e] at h; cases h
  | some k =>
    rw [e] at h
    obtain ⟨h1, h2⟩ := List.getElem?_eq_some_iff.mp e
    rw [List.getElem_range] at h2
    rw [List.length_range] at h1
    subst h2
    exact ⟨h1, (Option.some.inj h).symm⟩
theorem ei_range2 {ta : TA} {R : RsK} (h : Ea K ta Δ cs fun xs cs1 => ∃ i j : Int, xs = [.int i, .int j] ∧ (-(2 ^ 62) ≤ i ∧ i < 2 ^ 62 ∧ -(2 ^ 62) ≤ j ∧ j < 2 ^ 62) ∧ R (rangeD2 i (j - i).toNat) cs1) : Ei K (iRng2 ta) Δ cs R := fun σ G H Rr E I q =>
  h σ G H _ E I fun vs ds cs1 G1 H1 e1 I1 r1 ⟨a, b, ed, hb, h1⟩ => by
    subst ed
    have ev : vs = [V.int a, V.int b] := Reps.raws (ws := [V.int a, V.int b]) r1
    refine ⟨a, b, ev, hb, q _ _ cs1 G1 H1 e1 I1 ⟨fun i H' hi s => ?_, fun H' s => ?_, fun i H' x H2 G2 cs2 d hd s I2 y => ?_⟩ h1⟩
    · rw [rangeD2_len] at hi
      exact hi
    · rw [rangeD2_len]
      exact Nat.le_refl _
    · obtain ⟨rfl, rfl⟩ := y
      obtain ⟨_, rfl⟩ := rangeD2_get hd
      exact ⟨G2, Same.refl G2, I2, .raw _⟩
/-! ### range(i, j, c) -/
def rangeD3 (i c : Int) (n : Nat) : List D := (List.range n).map fun (k : Nat) => D.int (i + k * c)
theorem rangeD3_len (i c : Int) (n : Nat) : (rangeD3 i c n).length = n := by simp [rangeD3]
theorem rangeD3_get {j c : Int} {n i : Nat} {d : D} (h : (rangeD3 j c n)[i]? = some d) : i < n ∧ d = .int (j + i * c) := by
  unfold rangeD3 at h
  rw [List.getElem?_map] at h
  cases e : (List.range n)[i]? with
  | none => rw [e] at h; cases h
  | some k =>
    rw [e] at h
    obtain ⟨h1, h2⟩ := List.getElem?_eq_some_iff.mp e
    rw [List.getElem_range] at h2
    rw [List.length_range] at h1
    subst h2
    exact ⟨h1, (Option.some.inj h).symm⟩
theorem ei_range3 {ta : TA} {R : RsK} (h : Ea K ta Δ cs fun xs cs1 => ∃ (i j c : Int) (n : Nat), xs = [.int i, .int j, .int c] ∧ RgC i j c n ∧ R (rangeD3 i c n) cs1) : Ei K (iRng3 ta) Δ cs R := fun σ G H Rr E I q =>
  h σ G H _ E I fun vs ds cs1 G1 H1 e1 I1 r1 ⟨a, b, c, n, ed, hb, h1⟩ => by
    subst ed
    have ev : vs = [V.int a, V.int b, V.int c] := Reps.raws (ws := [V.int a, V.int b, V.int c]) r1
    refine ⟨a, b, c, n, ev, hb, q _ _ cs1 G1 H1 e1 I1 ⟨fun i H' hi s => ?_, fun H' s => ?_, fun i H' x H2 G2 cs2 d hd s I2 y => ?_⟩ h1⟩
    · rw [rangeD3_len] at hi
      exact hi
    · rw [rangeD3_len]
      exact Nat.le_refl _
    · obtain ⟨rfl, rfl⟩ := y
      obtain ⟨_, rfl⟩ := rangeD3_get hd
      exact ⟨G2, Same.refl G2, I2, .raw _⟩
/-! ### repr of an int -/
def rReprI : List V → Hp → VK → Prop := fun xs H Q => ∃ i, xs = [.int i] ∧ i.natAbs.log2 < 1920 ∧ Q (.str (toString i)) H
theorem call_reprI {X : Cx} : CallR X (.builtin "repr") rReprI := SkE.call_repr_int
theorem oa_reprI {i : Int} (hi : i.natAbs.log2 < 1920) (h : R (.str (toString i)) cs) : Oa K rReprI [.int i] cs R := oa_V1 (fun H Q q => ⟨i, rfl, hi, q⟩) h
/-! ### enumerate(text), by data -/
def enumS (z : Str) : List D := (signsD z).mapIdx fun i d => D.tup [.int (i : Nat), d]
theorem enumS_len (z : Str) : (enumS z).length = z.cps.size := by simp [enumS, signsD]
theorem enumS_get {z : Str} {i : Nat} {d : D} (h : (enumS z)[i]? = some d) : ∃ c, (sgn z)[i]? = some c ∧ d = .tup [.int (i : Nat), .str ⟨#[c]⟩] := by
  unfold enumS signsD at h
  rw [List.getElem?_mapIdx, List.getElem?_map] at h
  cases e : z.cps.toList[i]? with
  | none => rw [e] at h; cases h
  | some c =>
    rw [e] at h
    exact ⟨c, e, (Option.some.inj h).symm⟩
theorem ei_enumS {ta : TA} {R : RsK} (h : Ea K ta Δ cs fun xs cs1 => ∃ z, xs = [.str z] ∧ R (enumS z) cs1) : Ei K (iEnumS ta) Δ cs R := fun σ G H Rr E I q =>
  h σ G H _ E I fun ws xs cs1 G1 H1 e1 I1 r1 ⟨z, ed, h1⟩ => by
    subst ed
    have ev : ws = [V.str z] := Reps.raws (ws := [V.str z]) r1
    refine ⟨z, ev, q _ _ cs1 G1 H1 e1 I1 ⟨fun i H' hi s => ?_, fun H' s => ?_, fun i H' x H2 G2 cs2 d hd s I2 y => ?_⟩ h1⟩
    · rw [enumS_len] at hi
      exact hi
    · exact enumS_len z
    · obtain ⟨T, c, rfl, nT, hc, rfl⟩ := y
      obtain ⟨c2, hc2, rfl⟩ := enumS_get hd
      have ec : c2 = c := by
        have : z.cps.toList[i]? = some c := by rw [Array.getElem?_toList]; exact hc
        rw [show (sgn z)[i]? = z.cps.toList[i]? from rfl, this] at hc2
        exact (Option.some.inj hc2).symm
      subst ec
      have sn := same_new (o := .tup [V.int (i : Nat), V.str ⟨#[c2]⟩]) (I2.same.free nT)
      exact ⟨_, sn, I2.fresh nT, .tup (.inl (.inl upd_same)) (.cons (.raw _) (.cons (.raw _) .nil))⟩
theorem count_sgn (z : Str) (c : Nat) : Txt.count z ⟨#[c]⟩ = ((sgn z).count c : Nat) := by
  rw [count_cnt]
  show cnt c (sgn z) = _
  generalize sgn z = l
  induction l with
  | nil => rfl
  | cons a r ih =>
    rw [cnt_cons, ih, List.count_cons]
    by_cases h : a = c
    · subst h
      simp
      omega
    · simp [h]
/-! ### x.count(y), sum(xs) -/
theorem er_count (h : Er K to Δ cs fun x cs1 => ∃ a, x = .str a ∧ Er K te Δ cs1 fun y cs2 => ∃ b, y = .str b ∧ R (.int (Txt.count a b)) cs2) : Er K (tM1 rCount to te) Δ cs R := fun σ G H Q E I q =>
  h σ G H _ E I fun v x cs1 G1 H1 e1 I1 r1 ⟨a, ex, h1⟩ => by
    subst ex
    have ev := r1.raw_inv
    subst ev
    refine ⟨⟨a, rfl⟩, h1 σ G1 H1 _ (E.mono e1) I1 fun w y cs2 G2 H2 e2 I2 r2 ⟨b, ey, h2⟩ => ?_⟩
    subst ey
    have ew := r2.raw_inv
    subst ew
    exact ⟨a, b, rfl, rfl, (q.mono (e1.trans e2)).now I2 (.raw _) h2⟩
theorem oa_sumI {ns : List Int} (h : R (.int ns.sum) cs) : Oa K (rSumI K) [.lst (ns.map D.int)] cs R := fun vs G H Q r I q => by
  obtain ⟨v, rfl, rv⟩ := reps1 r
  obtain ⟨p, ws, rfl, hp, rs⟩ := rv.lst_inv
  rw [map_int] at rs
  rw [Reps.raws rs] at hp
  exact ⟨p, ns, rfl, I.same.seq hp, q.now I (.raw _) h⟩
/-! ### ''.join of an owned list -/
theorem er_joinC (h : Er K to Δ cs fun x cs1 => ∃ a, x = .str a ∧ Er K te Δ cs1 fun y cs2 => ∃ (p : Addr) (k : Nat) (ys : List Str), y = .raw (.ref p) ∧ cs2[k]? = some (p, CO.lst (ys.map D.str)) ∧ (ys.map (·.length)).sum + ys.length * a.length ≤ 16777216 ∧ R (.str (Txt.join a ys)) cs2) : Er K (tM1 (rJoin K) to te) Δ cs R := fun σ G H Q E I q =>
  h σ G H _ E I fun v x cs1 G1 H1 e1 I1 r1 ⟨a, ex, h1⟩ => by
    subst ex
    have ev := r1.raw_inv
    subst ev
    refine ⟨⟨a, rfl⟩, h1 σ G1 H1 _ (E.mono e1) I1 fun w y cs2 G2 H2 e2 I2 r2 ⟨p, k, ys, ey, hk, hz, h2⟩ => ?_⟩
    subst ey
    have ew := r2.raw_inv
    subst ew
    obtain ⟨gn, vs, hp, rs⟩ := I2.lst hk
    have e : ys.map D.str = (ys.map V.str).map D.raw := by rw [List.map_map]; rfl
    rw [e] at rs
    have ev := Reps.raws rs
    subst ev
    exact ⟨a, p, ys, rfl, rfl, .inl (.inl (.inl hp)), hz, (q.mono (e1.trans e2)).now I2 (.raw _) h2⟩
/-! ### raise C(e) -/
theorem xs_raiseF {X : XA} {E : XK} {C : Addr} {f : Str} (hiv : ∀ G, A.iv G → XQ K G X E) (h : Er K te Δ cs fun d cs1 => X (.ref C) [(f, d)] cs1) : Xs K (tRaiseF C f (tCons te tNil) fun cls d _ H => E cls d H) A Δ cs := fun σ G H D Ev I q =>
  h σ G H _ Ev I fun v d cs1 G1 H1 e1 I1 r1 h1 => by
    refine ⟨by show 1 ≤ 1000; decide, fun a ha => ⟨a, v, rfl, upd_same, fun dx hdx hne => ⟨rfl, dx, [(f, v)], upd_same, ?_, ?_, ?_⟩⟩⟩
    · rw [upd_ne hne, upd_same]
    · rw [upd_ne hne] at hdx
      exact hdx
    · have hd1 : H1 dx = none := by
        rw [upd_ne hne] at hdx
        exact hdx
      have eH : upd (L2.del (upd (upd (upd H1 a (exo a C none)) dx (exd dx [(f, v)])) a (exo a C (some dx))) a) dx (HO.xd [(f, v)]) = upd H1 dx (.xd [(f, v)]) := by
        funext b
        by_cases hb : b = dx
        · rw [hb, upd_same, upd_same]
        · rw [upd_ne hb, upd_ne hb]
          by_cases hba : b = a
          · rw [hba, del_same, ha]
          · rw [del_ne hba, upd_ne hba, upd_ne hb, upd_ne hba]
      rw [eH]
      have n' := I1.same.free hd1
      refine hiv G (q.iv G (Same.refl G)) _ (some dx) [(f, d)] cs1 _ _ (e1.trans (same_new n')) (I1.fresh hd1) (.inr ⟨dx, [(f, v)], List.cons_ne_nil _ _, rfl, upd_same, rfl, .cons (r1.mono (same_new n')) .nil⟩) h1
/-! ### a caught exception: its class, its fields; try: with a call in it -/
theorem oa_isX {C D a dx : Addr} {ns : List Str} {b : Bool} (e : PySem.W.kitOne K (.ref D) (.ref C) = some b) (h : R (.bl b) cs) : Oa K (rIsE K D a) [.exc a dx ns ds, .raw (.ref C)] cs R := fun vs G H Q r I q => by
  obtain ⟨v, w, rfl, rv, rw'⟩ := reps2 r
  obtain ⟨fs, rfl, _, _, _⟩ := rv.exc_inv
  rw [rw'.raw_inv]
  exact oa_isE (cs := cs) (R := R) e h [V.ref a, V.ref C] G H Q (.cons (.raw _) (.cons (.raw _) .nil)) I q
theorem er_xf {a dx C : Addr} {f : Str} (h : Er K te Δ cs fun x cs1 => ∃ ns ds d, x = .exc a dx ns ds ∧ getN f ns ds = some d ∧ R d cs1) : Er K (tXf a (.ref C) (some dx) C f te) Δ cs R := fun σ G H Q E I q =>
  h σ G H _ E I fun v x cs1 G1 H1 e1 I1 r1 ⟨ns, ds, d, ex, hg, h1⟩ => by
    subst ex
    obtain ⟨fs, rfl, hp, en, rs⟩ := r1.exc_inv
    subst en
    obtain ⟨w, hl, rw'⟩ := getN_lookup rs hg
    exact ⟨rfl, rfl, dx, fs, w, rfl, I1.same _ _ hp, hl, (q.mono e1).now I1 rw' h1⟩
/-- the suite of an except behind an exception in data -/
def SuiteX (K : PySem.W.Frag) (A : AE) (i : Nat) (c : Value) (ts : Addr → Value → Option Addr → TS) (Δ : Env) (cls : Value) (pl : List (Str × D)) (cs : Cells) : Prop :=
  PySem.W.exmOne K cls c = some true ∧ ∀ a, (pl = [] → Xs K (ts a cls none) { A with nx := fun Δ' cs' => A.nx (Δ'.set i none) cs', bk := fun Δ' cs' => A.bk (Δ'.set i none) cs', ct := fun Δ' cs' => A.ct (Δ'.set i none) cs' } (Δ.set i (some (.raw (.ref a)))) cs) ∧
    (pl ≠ [] → ∀ dx, Xs K (ts a cls (some dx)) { A with nx := fun Δ' cs' => A.nx (Δ'.set i none) cs', bk := fun Δ' cs' => A.bk (Δ'.set i none) cs', ct := fun Δ' cs' => A.ct (Δ'.set i none) cs' } (Δ.set i (some (.exc a dx (pl.map (·.1)) (pl.map (·.2))))) cs)
theorem suiteX {i : Nat} {c : Value} {ts : Addr → Value → Option Addr → TS} {Dn : Ends} {Wo : WX} (Ev : RepE K G σ Δ) (q : DQ K G A Dn) : XQ K G (SuiteX K A i c ts Δ) (WE (wAs K c i ts Wo Dn) σ) := fun cls d pl cs' G' H' e I' x ⟨hx, hs⟩ => by
  refine ⟨true, hx, fun _ a na => ?_, fun z => absurd z.symm Bool.false_ne_true⟩
  have fin : DQ K G' { A with nx := fun Δ' cs' => A.nx (Δ'.set i none) cs', bk := fun Δ' cs' => A.bk (Δ'.set i none) cs', ct := fun Δ' cs' => A.ct (Δ'.set i none) cs' } { Dn with nx := fun σ' H' => Dn.nx (σ'.set i none) H', bk := fun σ' H' => Dn.bk (σ'.set i none) H', ct := fun σ' H' => Dn.ct (σ'.set i none) H' } := by
    refine ⟨?_, q.rt.mono e, ?_, ?_, fun G9 e9 => q.iv G9 (e.trans e9)⟩
    · intro σ' Δ' cs5 G5 H5 e5 E5 I5 n5
      exact q.nx _ _ cs5 G5 H5 (e.trans e5) (E5.none i) I5 n5
    · intro σ' Δ' cs5 G5 H5 e5 E5 I5 n5
      exact q.bk _ _ cs5 G5 H5 (e.trans e5) (E5.none i) I5 n5
    · intro σ' Δ' cs5 G5 H5 e5 E5 I5 n5
      exact q.ct _ _ cs5 G5 H5 (e.trans e5) (E5.none i) I5 n5
  rcases x with ⟨ed, ep⟩ | ⟨dx, fs, hne, ed, hg, en, rs⟩
  · subst ed
    exact (hs a).1 ep _ G' H' _ ((Ev.mono e).set (.raw _) i) I' fin
  · subst ed
    exact (hs a).2 hne dx _ G' H' _ ((Ev.mono e).set (.exc hg en rs) i) I' fin
/-- try: f(e, ..) -/
theorem xs_tryDrop {F : Tr} {i : Nat} {c : Value} {ts : Addr → Value → Option Addr → TS} {Wo : WX} {t : TA} (h : Ea K t Δ cs fun xs cs1 => F xs cs1 (fun _ cs' => A.nx Δ cs') (SuiteX K A i c ts Δ)) :
    Xs K (fun D σ H => tDrop (tCallS (spA K F) (WE (wAs K c i ts Wo D)) t) D σ H) A Δ cs := fun σ G H D Ev I q =>
  h σ G H _ Ev I fun vs xs cs1 G1 H1 e1 I1 r1 h1 => ⟨G1, cs1, xs, _, _, I1, r1, h1, fun v d cs' G' H' e I' r hd => q.nx σ Δ cs' G' H' (e1.trans e) (Ev.mono (e1.trans e)) I' hd, suiteX (Ev.mono e1) (q.mono e1)⟩
/-- try: x = f(e, ..) -/
theorem xs_tryAsg {F : Tr} {i j : Nat} {c : Value} {ts : Addr → Value → Option Addr → TS} {Wo : WX} {t : TA} (h : Ea K t Δ cs fun xs cs1 => F xs cs1 (fun d cs' => A.nx (Δ.set j (some d)) cs') (SuiteX K A i c ts Δ)) :
    Xs K (fun D σ H => tAsg (tCallS (spA K F) (WE (wAs K c i ts Wo D)) t) (gName j) D σ H) A Δ cs := fun σ G H D Ev I q =>
  h σ G H _ Ev I fun vs xs cs1 G1 H1 e1 I1 r1 h1 => ⟨G1, cs1, xs, _, _, I1, r1, h1, fun v d cs' G' H' e I' r hd => q.nx _ _ cs' G' H' (e1.trans e) ((Ev.mono (e1.trans e)).set r j) I' hd, suiteX (Ev.mono e1) (q.mono e1)⟩
end
end L3

/-! L3o -/
set_option maxHeartbeats 4000000
namespace L3
open PySem PySem.Spec PyProof.Rows L2
section
variable {X : Cx} {C fI : Addr} {f x : Str} {k : Nat} {fd : FuncData} {ps : List Str} {W : WX} {e : Expr} {ta : TA} {p pos pos2 : Pos}
/-! ### raise C(e) -/
theorem ps_raiseF (hc : X.calm = true) (tk : Takes X W) (T : OexC X.K C) (iC : PySem.W.findIn X.K (.ref C) "__init__" = some (some (.ref fI))) (tI : PySem.W.typeIn X.K (.ref fI) = some (.type "function"))
    (F1 : FnOk X.prog X.w X.K X.mg X.base CX0 k fI fd ps (spErr C f)) (hr : Room (k + 1) X.A) (hb : Binds X.K fd ps []) (hg : Gl X x) (hm : X.mg x = some (.ref C)) (ha : PA X [e] ta)
    (hdb : (x == ("__debug__" : Str)) = false := by decide) (he : starEach [e] X.env = (false, eval e X.env) :: starEach [] X.env := by rfl) (hpl : (backTo pos (starEach [] X.env)).any (·.1) = false := by rfl) :
    PS X (.Raise (some (.Call (.Name x p) [e] [] pos)) none pos2) (tRaiseF C f ta W) :=
  ps_raise hc tk (pmk_oex T iC tI F1 hr hb .nil pass0 hg hm ha hdb he hpl)
/-! ### isinstance(e, c), e a caught exception with fields -/
def rIsF (K : PySem.W.Frag) (D a : Addr) (d : Option Addr) : List V → Hp → VK → Prop := fun xs H Q => ∃ (c : V) (cv : Value) (b : Bool) (dd : Addr) (fs : List (Str × V)), xs = [.ref a, c] ∧ d = some dd ∧ H dd = some (.xd fs) ∧ (∀ u, RelV c u → u = cv) ∧ PySem.W.kitOne K (.ref D) cv = some b ∧ Q (.bl b) H
theorem call_isF {a D : Addr} {oe : Obj} {d : Option Addr} {pn : List (Addr × Obj)} (C : ExcC X.K D) (hz : Zc (.ref D) d oe) (hf : ∃ vs, oe.data = .fields vs) : CallR (X.suite a ((a, oe) :: pn)) (.builtin "isinstance") (rIsF X.K D a d) := by
  intro pins s σ H xs us Q I r h
  obtain ⟨c, cv, b, dd, fs, rfl, ed, ea, hcv, e, q⟩ := h
  subst ed
  cases r with
  | cons rx rr =>
    cases rr with
    | cons rt rr =>
      cases rr
      cases rx
      have ec := hcv _ rt
      subst ec
      obtain ⟨hget, _⟩ := I.pin (a, oe) (List.mem_append.mpr (.inl List.mem_cons_self))
      obtain ⟨vs, hv⟩ := hf
      have hx : ObjOk X.prog X.w H s.heap dd (.xd fs) := I.hok dd _ ea
      obtain ⟨mA, hns, hr⟩ := hx
      obtain ⟨od, ho, hl⟩ := lookIn_ns hns
      have J : PySem.W.InstAt s.heap a oe D (some od) := ⟨hget, hz.1, by unfold PySem.W.notCls; rw [hv] <;> rfl, by rw [hz.2]; exact ho⟩
      exact PySem.W.kia_one (PySem.W.kitx_exc (by obtain ⟨cd, hc, _⟩ := PySem.W.any_some C.hd; rw [hc]; rfl) C.hg C.hk C.hs C.ha C.hn C.ht C.hm) I.kIn J e (fun z => nomatch z) fun tk => ⟨.bl b, H, I.kept (t' := tk) fun _ _ z => z, rfl, q⟩
theorem call_isE2 {a D : Addr} {oe : Obj} {cls : Value} {d : Option Addr} {pn : List (Addr × Obj)} (C : ExcC X.K D) (hz : Zc cls d oe) (hp : cls = .ref D ∧ d = none) (hf : ∃ vs, oe.data = .fields vs) : CallR (X.suite a ((a, oe) :: pn)) (.builtin "isinstance") (rIsE X.K D a) := by
  obtain ⟨rfl, rfl⟩ := hp
  exact call_isE C hz hf
theorem call_isF2 {a D : Addr} {oe : Obj} {cls : Value} {d : Option Addr} {pn : List (Addr × Obj)} (C : ExcC X.K D) (hz : Zc cls d oe) (hp : cls = .ref D) (hf : ∃ vs, oe.data = .fields vs) : CallR (X.suite a ((a, oe) :: pn)) (.builtin "isinstance") (rIsF X.K D a d) := by
  subst hp
  exact call_isF C hz hf
end
section
variable {K : PySem.W.Frag} {cs : Cells} {R : RK} {C D a dx : Addr} {b : Bool} {ns : List Str} {ds : List L3.D}
theorem oa_isF (e : PySem.W.kitOne K (.ref D) (.ref C) = some b) (h : R (.bl b) cs) : Oa K (rIsF K D a (some dx)) [.exc a dx ns ds, .raw (.ref C)] cs R := fun vs G H Q r I q => by
  obtain ⟨v, w, rfl, rv, rw'⟩ := reps2 r
  obtain ⟨fs, rfl, hg, _, _⟩ := rv.exc_inv
  have ew := rw'.raw_inv
  subst ew
  exact ⟨.ref C, .ref C, b, dx, fs, rfl, rfl, I.same _ _ hg, fun u r => r, e, q.now I (.raw _) h⟩
end
end L3

/-! L3p -/
set_option maxHeartbeats 4000000
namespace L3
open PySem PySem.Spec PyProof.Rows L2
/-! ### lists and tuples of flat data, compared -/
def flatP : D → Bool
  | .raw .non => true
  | .raw (.bl _) => true
  | .raw (.int _) => true
  | .raw (.str s) => PyData.canLay0 (.str s)
  | _ => false
theorem ok_flat {d : D} (h : flatP d = true) : okD d = true := by
  match d, h with
  | .raw .non, _ => rfl
  | .raw (.bl _), _ => rfl
  | .raw (.int _), _ => rfl
  | .raw (.str _), _ => rfl
theorem okL_flat : ∀ {l : List D}, l.all flatP = true → okL l = true
  | [], _ => rfl
  | d :: r, h => by
    rw [List.all_cons, Bool.and_eq_true] at h
    show (okD d && okL r) = true
    rw [ok_flat h.1, okL_flat h.2]
    rfl
theorem lay_flat {d : D} (h : flatP d = true) : PyData.canLay0 (pdD d) = true ∧ PyData.depth (pdD d) = 0 := by
  match d, h with
  | .raw .non, _ => exact ⟨rfl, rfl⟩
  | .raw (.bl _), _ => exact ⟨rfl, rfl⟩
  | .raw (.int _), _ => exact ⟨rfl, rfl⟩
  | .raw (.str _), h => exact ⟨h, rfl⟩
theorem layL_flat : ∀ {l : List D}, l.all flatP = true → PyData.canLayAll0 (pdL l) = true ∧ PyData.depthAll (pdL l) = 0
  | [], _ => ⟨rfl, rfl⟩
  | d :: r, h => by
    rw [List.all_cons, Bool.and_eq_true] at h
    obtain ⟨a1, a2⟩ := lay_flat h.1
    obtain ⟨b1, b2⟩ := layL_flat h.2
    refine ⟨?_, ?_⟩
    · show (PyData.canLay0 (pdD d) && PyData.canLayAll0 (pdL r)) = true
      rw [a1, b1]
      rfl
    · show max (PyData.depth (pdD d)) (PyData.depthAll (pdL r)) = 0
      rw [a2, b2]
      rfl
theorem shaped_flatL {l : List D} (h : l.all flatP = true) : SeqAt.shaped (pdD (.lst l)) = true := by
  obtain ⟨h1, h2⟩ := layL_flat h
  unfold SeqAt.shaped
  show (PyData.canLayAll0 (pdL l) && decide (PyData.depthAll (pdL l) + 1 ≤ 64)) = true
  rw [h1, h2]
  rfl
theorem shaped_flatT {l : List D} (h : l.all flatP = true) : SeqAt.shaped (pdD (.tup l)) = true := by
  obtain ⟨h1, h2⟩ := layL_flat h
  unfold SeqAt.shaped
  show (PyData.canLayAll0 (pdL l) && decide (PyData.depthAll (pdL l) + 1 ≤ 64)) = true
  rw [h1, h2]
  rfl
theorem lay_str {s : Str} (h : ∀ c ∈ sgn s, c < 0x110000) : PyData.canLay0 (.str s) = true := by
  show s.cps.all (· < 0x110000) = true
  rw [← Array.all_toList]
  exact List.all_eq_true.mpr fun c hc => decide_eq_true (h c hc)
theorem str_lay {s : Str} (h : PyData.canLay0 (.str s) = true) : ∀ c ∈ sgn s, c < 0x110000 := fun c hc => by
  have h2 : s.cps.all (· < 0x110000) = true := h
  rw [← Array.all_toList] at h2
  exact of_decide_eq_true (List.all_eq_true.mp h2 c hc)
theorem flat_strs {l : List Str} (h : ∀ s ∈ l, PyData.canLay0 (.str s) = true) : (l.map D.str).all flatP = true := List.all_eq_true.mpr fun d hd => by
  obtain ⟨s, hs, rfl⟩ := List.mem_map.mp hd
  exact h s hs
theorem flat_ints (l : List Int) : (l.map D.int).all flatP = true := List.all_eq_true.mpr fun d hd => by
  obtain ⟨s, _, rfl⟩ := List.mem_map.mp hd
  rfl
section
variable {K : PySem.W.Frag} {cs : Cells} {R : RK} {l m : List D} {c : Nat} {z : Str}
/-- xs == [] -/
theorem o2_eqNil (h : l.all flatP = true) (k : R (.bl l.isEmpty) cs) : O2 K (rEqD K) (.lst l) (.lst []) cs R := by
  refine o2_eqD (okL_flat h) rfl (shaped_flatL h) (shaped_flatL (l := []) rfl) ?_
  cases l with
  | nil => exact k
  | cons a r => exact k
theorem o2_neNil (h : l.all flatP = true) (k : R (.bl (!l.isEmpty)) cs) : O2 K (rNeD K) (.lst l) (.lst []) cs R := by
  refine o2_neD (okL_flat h) rfl (shaped_flatL h) (shaped_flatL (l := []) rfl) ?_
  cases l with
  | nil => exact k
  | cons a r => exact k
/-- c in s, c not in s, c one sign -/
theorem o2_inSign (h : R (.bl (decide (c ∈ sgn z))) cs) : O2 K (fun x y H Q => ∃ (c : Nat) (z : Str), x = .str ⟨#[c]⟩ ∧ y = .str z ∧ Q (.bl (decide (c ∈ z.cps.toList))) H) (.str ⟨#[c]⟩) (.str z) cs R := fun v w G H Q rv rw' I q =>
  ⟨c, z, rv.raw_inv, rw'.raw_inv, q.now I (.raw _) h⟩
theorem o2_notInSign (h : R (.bl (!decide (c ∈ sgn z))) cs) : O2 K (fun x y H Q => ∃ (c : Nat) (z : Str), x = .str ⟨#[c]⟩ ∧ y = .str z ∧ Q (.bl (!decide (c ∈ z.cps.toList))) H) (.str ⟨#[c]⟩) (.str z) cs R := fun v w G H Q rv rw' I q =>
  ⟨c, z, rv.raw_inv, rw'.raw_inv, q.now I (.raw _) h⟩
end
end L3

/-! L3q -/
set_option maxHeartbeats 4000000
namespace L3
open PySem PySem.Spec PyProof.Rows L2
def rListOf (K : PySem.W.Frag) : List V → Hp → VK → Prop := fun xs H Q => ∃ p ys, xs = [.ref p] ∧ (SqL K H p ys ∨ SqT K H p ys) ∧ ∀ l, H l = none → Q (.ref l) (upd H l (.lst ys))
theorem kcall_list {X : Cx} {K : PySem.W.Frag} (hK : X.K = K) : CallR X (.type "list") (rListOf K) := by subst hK; exact call_list_of
section
variable {K : PySem.W.Frag} {G G' H H' : Hp} {σ : L2.St} {Δ : Env} {cs : Cells} {R : RK} {ta tb tc te to : TE} {d x y : D} {ds es : List D} {A : AE} {t : TA} {u : TS}
/-! ### list(xs), owned or not -/
theorem oa_listC (h : ∀ p, R (.raw (.ref p)) (cs ++ [(p, .lst ds)])) : Oa K (rListOf K) [.lst ds] cs R := fun vs G H Q r I q => by
  obtain ⟨v, rfl, rv⟩ := reps1 r
  obtain ⟨p, ws, rfl, hp, rs⟩ := rv.lst_inv
  exact ⟨p, ws, rfl, .inl (I.same.seq hp), fun l n => q _ _ _ _ _ (Same.refl G) (I.snoc (co := .lst ds) n ⟨I.same.free n, ws, upd_same, rs⟩) (.raw _) (h l)⟩
theorem oa_listL (h : R (.lst ds) cs) : Oa K (rListOf K) [.lst ds] cs R := fun vs G H Q r I q => by
  obtain ⟨v, rfl, rv⟩ := reps1 r
  obtain ⟨p, ws, rfl, hp, rs⟩ := rv.lst_inv
  refine ⟨p, ws, rfl, .inl (I.same.seq hp), fun l n => ?_⟩
  have n' := I.same.free n
  exact q (.ref l) _ cs _ _ (same_new n') (I.fresh n) (.lst upd_same (rs.mono (same_new n'))) h
/-! ### xs.pop(i), xs.pop() of an owned list -/
theorem er_popAt (h : Er K to Δ cs fun x cs1 => ∃ (p : Addr) (k : Nat) (ds : List D), x = .raw (.ref p) ∧ cs1[k]? = some (p, CO.lst ds) ∧
    Er K te Δ cs1 fun y cs2 => ∃ (i : Nat) (ds2 : List D) (d : D), y = .int i ∧ cs2[k]? = some (p, CO.lst ds2) ∧ ds2[i]? = some d ∧ ds2.length < 2 ^ 62 ∧ R d (cs2.set k (p, .lst (ds2.eraseIdx i)))) : Er K (tBM K "list" rPopAt to (tCons te tNil)) Δ cs R := fun σ G H Q E I q =>
  h σ G H _ E I fun v x cs1 G1 H1 e1 I1 r1 ⟨p, k, ds, ex, hc, h1⟩ => by
    subst ex
    have ev := r1.raw_inv
    subst ev
    obtain ⟨_, vs, hp, rs⟩ := I1.lst hc
    refine ⟨.inl ⟨rfl, vs, .inl (.inl hp)⟩, h1 σ G1 H1 _ (E.mono e1) I1 fun w y cs2 G2 H2 e2 I2 r2 ⟨i, ds2, d, ey, hc2, hd, hl, h2⟩ => ?_⟩
    subst ey
    have ew := r2.raw_inv
    subst ew
    obtain ⟨gn, vs2, hp2, rs2⟩ := I2.lst hc2
    obtain ⟨z, hz, rz⟩ := rs2.get hd
    have hi : i < vs2.length := (List.getElem?_eq_some_iff.mp hz).1
    have hl2 : vs2.length < 2 ^ 62 := by rw [rs2.length]; exact hl
    have e62 : (2 : Nat) ^ 62 = 4611686018427387904 := by decide
    rw [e62] at hl2
    refine ⟨p, vs2, (i : Int), i, z, rfl, rfl, hp2, by omega, by omega, ?_, hz, ?_⟩
    · have := seqIndex_of (k := (i : Int)) (n := vs2.length) (by omega) (by omega)
      rw [this]
      rfl
    · exact q z d _ G2 _ (e1.trans e2) (I2.put (co' := .lst (ds2.eraseIdx i)) hc2 gn ⟨gn, _, upd_same, rs2.eraseIdx i⟩) rz h2
theorem er_pop (h : Er K to Δ cs fun x cs1 => ∃ (p : Addr) (k : Nat) (ds : List D) (d : D), x = .raw (.ref p) ∧ cs1[k]? = some (p, CO.lst (ds ++ [d])) ∧ R d (cs1.set k (p, .lst ds))) : Er K (tBM0 K "list" rPop to) Δ cs R := fun σ G H Q E I q =>
  h σ G H _ E I fun v x cs1 G1 H1 e1 I1 r1 ⟨p, k, ds, d, ex, hc, h1⟩ => by
    subst ex
    have ev := r1.raw_inv
    subst ev
    obtain ⟨gn, vs, hp, rs⟩ := I1.lst hc
    have hl := rs.length
    rw [List.length_append] at hl
    have hl1 : [d].length = 1 := rfl
    obtain ⟨z, hz, rz⟩ := rs.get (i := vs.length - 1) (d := d) (by rw [hl, hl1, List.getElem?_append_right (by omega)]; simp)
    have et : vs.dropLast = vs.take ds.length := by
      rw [List.dropLast_eq_take, hl, hl1]
      rfl
    refine ⟨.inl ⟨rfl, vs, .inl (.inl hp)⟩, p, vs, z, rfl, rfl, hp, hz, ?_⟩
    refine q z d _ G1 _ e1 (I1.put (co' := .lst ds) hc gn ⟨gn, vs.dropLast, upd_same, ?_⟩) rz h1
    rw [et]
    have := rs.take ds.length
    rw [List.take_left'] at this
    · exact this
    · rfl
/-! ### one datum compared with itself -/
theorem eqv_self {d : D} (h : SeqAt.shaped (pdD d) = true) : PyData.eqv (pdD d) (pdD d) = true := by
  unfold SeqAt.shaped at h
  rw [Bool.and_eq_true] at h
  exact PySem.SeqAt.eqv_refl _ h.1
theorem o2_neSelf (hx : okD x = true) (sx : SeqAt.shaped (pdD x) = true) (h : R (.bl false) cs) : O2 K (rNeD K) x x cs R := o2_neD hx hx sx sx (by rw [eqv_self sx]; exact h)
theorem o2_eqSelf (hx : okD x = true) (sx : SeqAt.shaped (pdD x) = true) (h : R (.bl true) cs) : O2 K (rEqD K) x x cs R := o2_eqD hx hx sx sx (by rw [eqv_self sx]; exact h)
end
end L3

/-! L3r -/
set_option maxHeartbeats 4000000
namespace L3
open PySem PySem.Spec PyProof.Rows L2
section
variable {X : Cx} {CX : CXT} {k : Nat} {f C : Addr} {fd : FuncData} {ps : List Str} {sp : Sp} {dvs : List V} {ds : List Value} {E : L2.St → XK} {x : Str} {p pos : Pos} {e : Expr} {es : List Expr} {t : TA}
/-! ### C(e, ..) in a try's body -/
def tMakeW (C : Addr) (sp : Sp) (dvs : List V) (E : L2.St → XK) (t : TA) : TE := fun σ H Q => t σ H fun vs H1 => ∀ x dx, H1 x = none → H1 dx = none → dx ≠ x →
  sp (.ref x :: (vs ++ dvs)) (upd (upd H1 dx (.own x)) x (.ins C dx [])) (fun v H2 => v = .non ∧ Q (.ref x) H2) (E σ)
theorem run_makeS {pins : List (Addr × Obj)} {σ : L2.St} {H : Hp} {s : Shared} {Q : VK} {us : List Value} {vs : List V} {E : XK} (M : Mk X.K C f) (F : FnOk X.prog X.w X.K X.mg X.base CX k f fd ps sp) (hr : Room (k + 1) X.A) (hb : Binds X.K fd ps ds) (hd : Vals dvs ds)
    (hx : PassesAt CX X σ E) (I : Inv X pins σ H s) (r : Vals vs us)
    (h : ∀ x dx, H x = none → H dx = none → dx ≠ x → sp (.ref x :: (vs ++ dvs)) (upd (upd H dx (.own x)) x (.ins C dx [])) (fun v H2 => v = .non ∧ Q (.ref x) H2) E) :
    wpAny (model X.prog X.w) X.A (call (.ref C) us) (EP X pins σ Q) X.xe s := by
  have hq := h (s.heap.objs.size + 1) s.heap.objs.size (I.hok.fresh (Nat.le_succ _)) (I.hok.fresh (Nat.le_refl _)) (Nat.ne_of_lt (Nat.lt_succ_self _))
  have I2 := Inv.made (C := C) I
  have r2 : Vals (V.ref (s.heap.objs.size + 1) :: (vs ++ dvs)) (Value.ref (s.heap.objs.size + 1) :: (us ++ ds)) := .cons rfl (r.append hd)
  have hl : (Value.ref (s.heap.objs.size + 1) :: us ++ ds).length = ps.length := by
    have e := r2.length
    rw [F.len _ _ _ _ hq] at e
    exact e.symm
  refine wpAny_call (make_map (f := f) I.kIn M.makes M.init (beq_iff_eq.mp M.fn) (codeAny_mono (F.run _ X.stack _ _ ⟨Value.ref (s.heap.objs.size + 1) :: us, []⟩ (Value.ref (s.heap.objs.size + 1) :: (us ++ ds)) _ _ E (hr.make C us [])
    (I2.env0.make C us []) (hb _ (Value.ref (s.heap.objs.size + 1) :: us) I2.kIn hl) r2 hq) fun r s' hq' => ?_))
  cases r with
  | error e => exact hx pins _ _ e s' I2 hq'
  | ok fl =>
    cases fl with
    | ret u =>
      obtain ⟨v, H', I3, rv, ev, q3⟩ := I2.after hq'
      subst ev
      exact ⟨rv, ⟨V.ref (s.heap.objs.size + 1), H', I3, rfl, q3⟩⟩
    | next => exact False.elim hq'
    | brk => exact False.elim hq'
    | cont => exact False.elim hq'
theorem pe_makeW (M : Mk X.K C f) (F : FnOk X.prog X.w X.K X.mg X.base CX k f fd ps sp) (hr : Room (k + 1) X.A) (hg : Gl X x) (hm : X.mg x = some (.ref C)) (hb : Binds X.K fd ps ds) (hd : Vals dvs ds) (hx : ∀ σ, PassesAt CX X σ (E σ))
    (ha : PA X (e :: es) t) (hdb : (x == ("__debug__" : Str)) = false := by decide) (he : starEach (e :: es) X.env = (false, eval e X.env) :: starEach es X.env := by rfl) (hpl : (backTo pos (starEach es X.env)).any (·.1) = false := by rfl) :
    PE X (.Call (.Name x p) (e :: es) [] pos) (tMakeW C sp dvs E t) := by
  refine ⟨fun pins s σ H Q I h => ?_⟩
  refine wpAny_Call_Name_kw (ld_glob I hg hm ?_ hdb)
  refine PySem.W.callWith_K (h₀ := X.base) I.ok.mod.kin M.kp (thn (ha.run pos pins s σ H _ I h) fun us s1 ⟨vs, H1, I1, r, q⟩ => ⟨I1.kIn, ?_⟩) he hpl
  exact run_makeS M F hr hb hd (hx σ) I1 r q
end
section
variable {K : PySem.W.Frag} {G G' H H' : Hp} {σ : L2.St} {Δ : Env} {cs : Cells} {R : RK} {ta tb tc te to : TE} {d x y : D} {ds es : List D} {A : AE} {t : TA} {u : TS}
/-- try: C(e, ..) -/
theorem xs_tryMake {F : Tr} {C : Addr} {dvs : List V} {i : Nat} {c : Value} {ts : Addr → Value → Option Addr → TS} {Wo : WX} {t : TA} (h : Ea K t Δ cs fun xs cs1 => ∀ p, F (.raw (.ref p) :: (xs ++ dvs.map D.raw)) (cs1 ++ [(p, .ins C [] [])]) (fun d cs2 => d = .non ∧ A.nx Δ cs2) (SuiteX K A i c ts Δ)) :
    Xs K (fun D σ H => tDrop (tMakeW C (spA K F) dvs (WE (wAs K c i ts Wo D)) t) D σ H) A Δ cs := fun σ G H D Ev I q =>
  h σ G H _ Ev I fun vs xs cs1 G1 H1 e1 I1 r1 h1 => fun p dx np ndx ne => by
    have I2 : Own K G1 (upd H1 dx (.own p)) cs1 := I1.grown (same_new ndx)
    have np2 : upd H1 dx (.own p) p = none := by rw [upd_ne (Ne.symm ne)]; exact np
    have I3 := I2.snoc (p := p) (o := .ins C dx []) (co := .ins C [] []) np2 ⟨I1.same.free np, dx, [], upd_same, rfl, .nil⟩
    refine ⟨G1, _, _, _, _, I3, .cons (.raw _) (r1.append (Reps.of_raws dvs)), h1 p, fun v d cs2 G2 H2 e2 I4 r4 ⟨ed, h4⟩ => ?_, suiteX (Ev.mono e1) (q.mono e1)⟩
    subst ed
    exact ⟨r4.raw_inv, q.nx σ Δ cs2 G2 H2 (e1.trans e2) (Ev.mono (e1.trans e2)) I4 h4⟩
/-- raise C(e); cells behind the n-th are let go -/
theorem xs_raiseFd {X : XA} {E : XK} {C : Addr} {f : Str} (hiv : ∀ G, A.iv G → XQ K G X E) (h : Er K te Δ cs fun d cs1 => ∃ n, X (.ref C) [(f, d)] (cs1.take n)) : Xs K (tRaiseF C f (tCons te tNil) fun cls d _ H => E cls d H) A Δ cs :=
  xs_raiseF (X := fun cls pl cs' => ∃ n, X cls pl (cs'.take n)) (fun G hG cls d pl cs' G' H' e I x ⟨n, h⟩ => hiv G hG cls d pl (cs'.take n) G' H' e (I.take n) x h) h
/-! ### parts of a list, their shape -/
theorem okL_filter {f : D → Bool} : ∀ {l : List D}, okL l = true → okL (l.filter f) = true
  | [], _ => rfl
  | d :: r, h => by
    have h2 : (okD d && okL r) = true := h
    rw [Bool.and_eq_true] at h2
    rw [List.filter_cons]
    split
    · show (okD d && okL (r.filter f)) = true
      rw [h2.1, okL_filter h2.2]
      rfl
    · exact okL_filter h2.2
theorem lay_filter {f : D → Bool} : ∀ {l : List D}, PyData.canLayAll0 (pdL l) = true → PyData.canLayAll0 (pdL (l.filter f)) = true ∧ PyData.depthAll (pdL (l.filter f)) ≤ PyData.depthAll (pdL l)
  | [], _ => ⟨rfl, Nat.le_refl _⟩
  | d :: r, h => by
    have h2 : (PyData.canLay0 (pdD d) && PyData.canLayAll0 (pdL r)) = true := h
    rw [Bool.and_eq_true] at h2
    obtain ⟨a, b⟩ := lay_filter (f := f) h2.2
    have e : PyData.depthAll (pdL (d :: r)) = max (PyData.depth (pdD d)) (PyData.depthAll (pdL r)) := rfl
    rw [List.filter_cons]
    split
    · refine ⟨?_, ?_⟩
      · show (PyData.canLay0 (pdD d) && PyData.canLayAll0 (pdL (r.filter f))) = true
        rw [h2.1, a]
        rfl
      · show max (PyData.depth (pdD d)) (PyData.depthAll (pdL (r.filter f))) ≤ _
        rw [e]
        omega
    · refine ⟨a, ?_⟩
      rw [e]
      omega
theorem shaped_filter {f : D → Bool} {l : List D} (h : SeqAt.shaped (pdD (.lst l)) = true) : SeqAt.shaped (pdD (.lst (l.filter f))) = true := by
  unfold SeqAt.shaped at h ⊢
  have h2 : (PyData.canLayAll0 (pdL l) && decide (PyData.depthAll (pdL l) + 1 ≤ 64)) = true := h
  rw [Bool.and_eq_true] at h2
  obtain ⟨a, b⟩ := lay_filter (f := f) h2.1
  show (PyData.canLayAll0 (pdL (l.filter f)) && decide (PyData.depthAll (pdL (l.filter f)) + 1 ≤ 64)) = true
  have h3 := of_decide_eq_true h2.2
  rw [a, decide_eq_true (by omega)]
  rfl
theorem eqvAll_nil : ∀ (l : List D), PyData.eqvAll (pdL l) [] = l.isEmpty
  | [] => rfl
  | _ :: _ => rfl
end
end L3

/-! k03 -/
set_option autoImplicit false
namespace Law
open PySem L2 L3
/-! ### the text by places -/
def top (i : Nat) : Stmt := PySem.Challenge.pw_notchsafe_k03_ways_refused.main.body.getD i (.Pass ⟨0, 0, 0, 0⟩)
abbrev s_InvalidWay___init__ : Stmt := inClass (top 3) 0
abbrev s_is_count : Stmt := top 9
abbrev s_is_sequence : Stmt := top 10
abbrev s_is_how : Stmt := top 15
abbrev s_is_part : Stmt := top 16
abbrev s_Way___init__ : Stmt := inClass (top 14) 0
abbrev s__law_box : Stmt := top 19
abbrev s__law_take : Stmt := top 20
abbrev s__law_pick : Stmt := top 21
abbrev s__law_value : Stmt := top 22
abbrev s__law_is_number : Stmt := top 23
abbrev s__law_due : Stmt := top 24
abbrev s__law_heard : Stmt := top 25
abbrev s_law : Stmt := top 26
/-! ### what stands behind the top -/
structure Txt (K : PySem.W.Frag) (mg : Str → Option Value) where
  n_abs : mg "abs" = none
  n_all : mg "all" = none
  n_bool : mg "bool" = none
  n_int : mg "int" = none
  n_isinstance : mg "isinstance" = none
  n_len : mg "len" = none
  n_list : mg "list" = none
  n_max : mg "max" = none
  n_min : mg "min" = none
  n_range : mg "range" = none
  n_set : mg "set" = none
  n_sorted : mg "sorted" = none
  n_str : mg "str" = none
  n_tuple : mg "tuple" = none
  a_HOWS : Addr
  g_HOWS : mg "HOWS" = some (.ref a_HOWS)
  s_HOWS : ∀ H : Hp, SqT K H a_HOWS [V.str "add", V.str "lose", V.str "mixed"]
  C_InvalidWay : Addr
  g_InvalidWay : mg "InvalidWay" = some (.ref C_InvalidWay)
  C_InvalidRule : Addr
  g_InvalidRule : mg "InvalidRule" = some (.ref C_InvalidRule)
  C_StickError : Addr
  g_StickError : mg "StickError" = some (.ref C_StickError)
  e_InvalidWay : ExcC K C_InvalidWay
  te_InvalidWay : PySem.W.exmOne K (.ref C_InvalidWay) (.ref C_InvalidWay) = some true
  o_InvalidWay : OexC K C_InvalidWay
  xf_InvalidWay : XfC K C_InvalidWay
  nf_InvalidWay : PySem.W.findIn K (.ref C_InvalidWay) "word" = some none
  kx_InvalidWay_StickError : PySem.W.kitOne K (.ref C_InvalidWay) (.ref C_StickError) = some true
  kx_InvalidWay_InvalidRule : PySem.W.kitOne K (.ref C_InvalidWay) (.ref C_InvalidRule) = some false
  C_Way : Addr
  g_Way : mg "Way" = some (.ref C_Way)
  cl_Way : Cls K C_Way
  no_Way_how : NoAttr K C_Way "how"
  no_Way_most : NoAttr K C_Way "most"
  no_Way_part : NoAttr K C_Way "part"
  a_InvalidWay___init__ : Addr
  d_InvalidWay___init__ : FuncData
  F_InvalidWay___init__ : Fun K "__init__" "InvalidWay.__init__" s_InvalidWay___init__ a_InvalidWay___init__ d_InvalidWay___init__
  b_InvalidWay___init__ : Binds K d_InvalidWay___init__ ["self", "word"] []
  a_is_count : Addr
  d_is_count : FuncData
  F_is_count : Fun K "is_count" "is_count" s_is_count a_is_count d_is_count
  b_is_count : Binds K d_is_count ["value"] []
  g_is_count : mg "is_count" = some (.ref a_is_count)
  a_is_sequence : Addr
  d_is_sequence : FuncData
  F_is_sequence : Fun K "is_sequence" "is_sequence" s_is_sequence a_is_sequence d_is_sequence
  b_is_sequence : Binds K d_is_sequence ["value"] []
  g_is_sequence : mg "is_sequence" = some (.ref a_is_sequence)
  a_is_how : Addr
  d_is_how : FuncData
  F_is_how : Fun K "is_how" "is_how" s_is_how a_is_how d_is_how
  b_is_how : Binds K d_is_how ["value"] []
  g_is_how : mg "is_how" = some (.ref a_is_how)
  a_is_part : Addr
  d_is_part : FuncData
  F_is_part : Fun K "is_part" "is_part" s_is_part a_is_part d_is_part
  b_is_part : Binds K d_is_part ["value"] []
  g_is_part : mg "is_part" = some (.ref a_is_part)
  a_Way___init__ : Addr
  d_Way___init__ : FuncData
  F_Way___init__ : FunD K "__init__" "Way.__init__" (defArgs s_Way___init__) (defBody s_Way___init__) (defScope s_Way___init__) [V.str "add", V.non, V.non] [] a_Way___init__ d_Way___init__
  e3_Way___init__ : List Value
  b3_Way___init__ : Binds K d_Way___init__ ["self", "how", "most", "part"] e3_Way___init__
  d3_Way___init__ : Vals [] e3_Way___init__
  mk_Way : Mk K C_Way a_Way___init__
  a__law_box : Addr
  d__law_box : FuncData
  F__law_box : Fun K "_law_box" "_law_box" s__law_box a__law_box d__law_box
  b__law_box : Binds K d__law_box ["_law_script", "_law_k", "_law_own"] []
  g__law_box : mg "_law_box" = some (.ref a__law_box)
  a__law_take : Addr
  d__law_take : FuncData
  F__law_take : Fun K "_law_take" "_law_take" s__law_take a__law_take d__law_take
  b__law_take : Binds K d__law_take ["_law_box_here", "_law_bound"] []
  g__law_take : mg "_law_take" = some (.ref a__law_take)
  a__law_pick : Addr
  d__law_pick : FuncData
  F__law_pick : Fun K "_law_pick" "_law_pick" s__law_pick a__law_pick d__law_pick
  b__law_pick : Binds K d__law_pick ["_law_box_here", "_law_items"] []
  g__law_pick : mg "_law_pick" = some (.ref a__law_pick)
  a__law_value : Addr
  d__law_value : FuncData
  F__law_value : Fun K "_law_value" "_law_value" s__law_value a__law_value d__law_value
  b__law_value : Binds K d__law_value ["_law_box_here"] []
  g__law_value : mg "_law_value" = some (.ref a__law_value)
  a__law_is_number : Addr
  d__law_is_number : FuncData
  F__law_is_number : Fun K "_law_is_number" "_law_is_number" s__law_is_number a__law_is_number d__law_is_number
  b__law_is_number : Binds K d__law_is_number ["_law_value_here"] []
  g__law_is_number : mg "_law_is_number" = some (.ref a__law_is_number)
  a__law_due : Addr
  d__law_due : FuncData
  F__law_due : Fun K "_law_due" "_law_due" s__law_due a__law_due d__law_due
  b__law_due : Binds K d__law_due ["_law_how", "_law_most", "_law_part"] []
  g__law_due : mg "_law_due" = some (.ref a__law_due)
  a__law_heard : Addr
  d__law_heard : FuncData
  F__law_heard : Fun K "_law_heard" "_law_heard" s__law_heard a__law_heard d__law_heard
  b__law_heard : Binds K d__law_heard ["_law_how", "_law_most", "_law_part"] []
  g__law_heard : mg "_law_heard" = some (.ref a__law_heard)
  a_law : Addr
  d_law : FuncData
  F_law : Fun K "law" "law" s_law a_law d_law
  b_law : Binds K d_law ["_law_script"] []
  g_law : mg "law" = some (.ref a_law)
  i_InvalidWay : PySem.W.findIn K (.ref C_InvalidWay) "__init__" = some (some (.ref a_InvalidWay___init__))
  ti_InvalidWay : PySem.W.typeIn K (.ref a_InvalidWay___init__) = some (.type "function")
local macro_rules | `(tactic| walk_at "e") => `(tactic| first
  | ((with_reducible refine er_var (d := ?dd) ?hv ?_); (case hv => rfl))
  | (with_reducible refine er_c ?_)
  | (with_reducible refine er_op ?_)
  | (with_reducible refine er_un ?_)
  | (with_reducible refine er_isSeq ?_)
  | (with_reducible refine er_sortedSet ?_)
  | (with_reducible refine er_join ?_)
  | (with_reducible refine er_slS ?_)
  | (with_reducible refine eo_none ?_)
  | (with_reducible refine eo_some ?_)
  | (with_reducible refine er_cb ?_)
  | (with_reducible refine ea_cons ?_)
  | (with_reducible refine ea_nil ?_)
  | (with_reducible refine er_andV ?_)
  | (with_reducible refine er_orV ?_)
  | (with_reducible refine er_notV ?_)
  | (with_reducible refine er_isN ?_)
  | (with_reducible refine er_notN ?_)
  | (with_reducible refine er_if ?_)
  | (with_reducible refine et_test ?_)
  | (with_reducible refine et_B ?_)
  | (with_reducible refine et_and ?_)
  | (with_reducible refine et_or ?_)
  | (with_reducible refine et_not ?_)
  | (with_reducible refine et_yes ?_)
  | (with_reducible refine er_tup ?_)
  | (with_reducible refine er_call ?_)
  | (with_reducible refine xs_seq ?_)
  | (with_reducible refine xs_ret ?_)
  | (with_reducible refine xs_if ?_)
  | (with_reducible refine xs_asg ?_)
  | (with_reducible refine xs_next ?_)
  | (with_reducible refine xs_drop ?_)
  | (with_reducible refine gg_name ?_)
  | (with_reducible refine o2_I0 ?_)
  | (with_reducible refine oa_isInt (by assumption) ?_)
  | (with_reducible refine oa_isBool (by assumption) ?_)
  | (with_reducible refine oa_isStr (by assumption) ?_)
  | (with_reducible refine oa_all ?_)
  | (with_reducible refine oa_lenL ?_)
  | (with_reducible refine oa_lenR ?_)
  | (with_reducible refine oa_lenT ?_)
  | (with_reducible refine oa_tupL ?_)
  | (with_reducible refine oa_max2 ?_)
  | (with_reducible refine oa_min2 ?_)
  | (with_reducible refine oa_abs ?_)
  | (with_reducible refine oa_intI ?_)
  | (with_reducible refine oa_intB ?_)
  | (with_reducible refine o2_isB ?_)
  | (with_reducible refine o2_notB ?_)
  | (with_reducible refine o2_eqI ?_)
  | (with_reducible refine o2_neI ?_)
  | (with_reducible refine o2_eqT ?_)
  | (with_reducible refine o2_neT ?_)
  | (with_reducible refine o2_eqB ?_)
  | (with_reducible refine o2_neB ?_)
  | (with_reducible refine o1_U ?_))
local macro_rules | `(tactic| walk_at "ev") => `(tactic| repeat (first | walk_at "e" | dsimp only))

abbrev boxC (p : Addr) (a b c : Int) : Addr × CO := (p, .lst [.int a, .int b, .int c])
def c_box : Tr := fun ds cs R _ => ∃ (ns : List Int) (k own : Int), ds = [.ro (ns.map D.int), .int k, .int own] ∧ 0 ≤ k ∧ k ≤ 1000 ∧ 0 ≤ own ∧ own ≤ 1000 ∧ cs = [] ∧ ∀ p a b c, 0 ≤ a → R (.raw (.ref p)) [boxC p a b c]
def c_take : Tr := fun ds cs R _ => ∃ (p : Addr) (a b c n : Int) (cs0 : Cells), ds = [.raw (.ref p), .int n] ∧ cs = boxC p a b c :: cs0 ∧ 0 ≤ a ∧ 0 < n ∧ n ≤ 1000000 ∧ ∀ r a' b' c', 0 ≤ r → r < n → 0 ≤ a' → R (.int r) (boxC p a' b' c' :: cs0)
def c_pick : Tr := fun ds cs R _ => ∃ (p : Addr) (a b c : Int) (cs0 : Cells) (xs : List D), ds = [.raw (.ref p), .lst xs] ∧ cs = boxC p a b c :: cs0 ∧ 0 ≤ a ∧ xs ≠ [] ∧ xs.length ≤ 1000 ∧ ∀ (i : Nat) (d : D) a' b' c', xs[i]? = some d → 0 ≤ a' → R d (boxC p a' b' c' :: cs0)

def c_law : Tr := fun ds cs R _ => ∃ ns : List Int, ds = [.ro (ns.map D.int)] ∧ ns.length ≤ 63 ∧ cs = [] ∧ ∀ cs', R (.bl true) cs'
theorem law_in (K : PySem.W.Frag) (H : Hp) (a : Addr) (ns : List Int) (hl : ns.length ≤ 63) (_ : Only H) (hS : SqL K H a (ns.map V.int)) : spA K c_law [.ref a] H (fun v _ => v = .bl true) fun _ _ _ => False := by
  refine ⟨H, [], [.ro (ns.map D.int)], fun d _ => d = .bl true, X0, Own.nil _ _ (Same.refl H), .cons (.ro hS ?_) .nil, ⟨ns, rfl, hl, rfl, fun _ => rfl⟩, fun v d cs' G' H' e I r k => ?_, fun cls d pl cs' G' H' e I r k => k⟩
  · rw [map_int]
    exact Reps.of_raws _
  · subst k
    exact r.raw_inv
theorem law_turns {N : Int} {ns : List Int} {w : Int} (hw : 1 ≤ w ∧ w ≤ 100) (e : N = (if (if (ns.length : Int) < w then (ns.length : Int) else w) > 1 then (if (ns.length : Int) < w then (ns.length : Int) else w) else 1)) : N ≤ w ∧ 1 ≤ N := by
  rw [e]
  split <;> split <;> omega
section
variable {K : PySem.W.Frag} {Δ : L3.Env} {cs : Cells} {R : RK} {A : AE} {c : TT} {u v w : TS}
theorem xs_guardP {P : Cells → Prop} (h : Et K c Δ cs fun b cs1 => b = false ∧ P cs1) (k : ∀ cs1, P cs1 → Xs K u A Δ cs1) : Xs K (tSeq (tIfS c v tNext) u) A Δ cs := by
  refine xs_seq (xs_if (et_mono h ?_))
  rintro b cs1 ⟨rfl, hp⟩
  exact ⟨fun e => absurd e Bool.false_ne_true, fun _ => xs_next (k cs1 hp)⟩
theorem xs_midP {M : L3.Env → Cells → Prop} (h : Xs K w { A with nx := M } Δ cs) (k : ∀ Δ cs, M Δ cs → A.nx Δ cs) : Xs K w A Δ cs := xs_mono (A := { A with nx := M }) (N' := A.nx) h k
theorem xs_endP {P : Cells → Prop} (h : Et K c Δ cs fun b cs1 => b = false ∧ P cs1) (k : ∀ cs1, P cs1 → A.nx Δ cs1) : Xs K (tIfS c v tNext) A Δ cs := by
  refine xs_if (et_mono h ?_)
  rintro b cs1 ⟨rfl, hp⟩
  exact ⟨fun e => absurd e Bool.false_ne_true, fun _ => xs_next (k cs1 hp)⟩
end
def isCountD : D → Bool
  | .raw (.int i) => decide (0 ≤ i)
  | _ => false
def c_is_count (K : PySem.W.Frag) : Tr := fun ds cs R _ => ∃ d n, ds = [d] ∧ TyD K d n ∧ R (.bl (isCountD d)) cs
def c_is_seq (K : PySem.W.Frag) : Tr := fun ds cs R _ => ∃ d n, ds = [d] ∧ TyD K d n ∧ R (.bl (isListD d || isTupD d)) cs
def isStickD : D → Bool
  | .raw (.str s) => isStickS s
  | _ => false
def c_is_stick (K : PySem.W.Frag) : Tr := fun ds cs R _ => ∃ d n, ds = [d] ∧ TyD K d n ∧ (∀ s, d = .str s → s.length ≤ 1000) ∧ R (.bl (isStickD d)) cs
def hows : List Str := ["add", "lose", "mixed"]
def isHowD : D → Bool
  | .raw (.str s) => decide (s ∈ hows)
  | _ => false
def c_is_how (K : PySem.W.Frag) : Tr := fun ds cs R _ => ∃ d n, ds = [d] ∧ TyD K d n ∧ R (.bl (isHowD d)) cs
def isPartD : D → Bool
  | .lst xs => xs.all isCountD
  | .tup xs => xs.all isCountD
  | _ => false
def itemsD : D → List D
  | .lst xs => xs
  | .tup xs => xs
  | _ => []
def c_is_part (K : PySem.W.Frag) : Tr := fun ds cs R _ => ∃ d n, ds = [d] ∧ TyD K d n ∧ (itemsD d).length ≤ 1000 ∧ (∀ x ∈ itemsD d, ∃ m, TyD K x m) ∧ R (.bl (isPartD d)) cs
def mostD : Option Int → D
  | none => .non
  | some i => .int i
def partD : Option (List Int) → D
  | none => .non
  | some l => .tup (l.map D.int)
def wayNs : List Str := ["how", "most", "part"]
def wayDs (how : Str) (mo : Option Int) (pt : Option (List Int)) : List D := [.str how, mostD mo, partD pt]
/-- a part that is handed in: None, or a list or tuple of places -/
def PartIn (part : D) (pt : Option (List Int)) : Prop := (part = .non ∧ pt = none) ∨ ∃ ns : List Int, (part = .lst (ns.map D.int) ∨ part = .tup (ns.map D.int)) ∧ (∀ i ∈ ns, 0 ≤ i) ∧ ns.length ≤ 60 ∧ pt = some (asc ns)
def MostOk : Option Int → Prop
  | none => True
  | some i => 0 ≤ i

theorem small1000 {n : Nat} (h : n ≤ 1000) : n < sizeLine := by
  have : (1000 : Nat) < sizeLine := by decide
  omega
theorem small_line {n : Nat} (h : n ≤ 1000) : n ≤ sizeLine := Nat.le_of_lt (small1000 h)
def goodM (m : D) : Bool := isNonD m || isCountD m
def goodP (p : D) : Bool := isNonD p || isPartD p
/-- a value that is handed in -/
structure OddW (K : PySem.W.Frag) (d : D) : Prop where
  ty : ∃ n, TyD K d n
  items : (itemsD d).length ≤ 60
  tys : ∀ x ∈ itemsD d, ∃ m, TyD K x m
theorem how_str {d : D} (h : isHowD d = true) : ∃ z, d = .str z ∧ z ∈ hows := by
  match d, h with
  | .raw (.str z), h => exact ⟨z, rfl, of_decide_eq_true h⟩
theorem most_of {d : D} (h : goodM d = true) : ∃ mo, d = mostD mo ∧ MostOk mo := by
  match d, h with
  | .raw .non, _ => exact ⟨none, rfl, trivial⟩
  | .raw (.int i), h => exact ⟨some i, rfl, show 0 ≤ i from of_decide_eq_true (show decide (0 ≤ i) = true from h)⟩
theorem ints_of : ∀ {l : List D}, l.all isCountD = true → ∃ ns : List Int, l = ns.map D.int ∧ ∀ i ∈ ns, 0 ≤ i
  | [], _ => ⟨[], rfl, fun i h => by cases h⟩
  | d :: r, h => by
    rw [List.all_cons, Bool.and_eq_true] at h
    obtain ⟨ns, e, hn⟩ := ints_of h.2
    match d, h.1 with
    | .raw (.int i), hi =>
      refine ⟨i :: ns, by rw [e]; rfl, fun j hj => ?_⟩
      rcases List.mem_cons.mp hj with rfl | hj
      · exact of_decide_eq_true hi
      · exact hn j hj
theorem part_of {d : D} (h : goodP d = true) (hl : (itemsD d).length ≤ 60) : ∃ pt, PartIn d pt := by
  match d, h with
  | .raw .non, _ => exact ⟨none, .inl ⟨rfl, rfl⟩⟩
  | .lst l, h =>
    obtain ⟨ns, rfl, hn⟩ := ints_of (show l.all isCountD = true from h)
    exact ⟨some (asc ns), .inr ⟨ns, .inl rfl, hn, by rw [← List.length_map (f := D.int)]; exact hl, rfl⟩⟩
  | .tup l, h =>
    obtain ⟨ns, rfl, hn⟩ := ints_of (show l.all isCountD = true from h)
    exact ⟨some (asc ns), .inr ⟨ns, .inr rfl, hn, by rw [← List.length_map (f := D.int)]; exact hl, rfl⟩⟩
section
variable {P : Program} {w : World} {K : PySem.W.Frag} {mg : Str → Option Value} {base : Heap}
theorem sc_InvalidWay___init__ : FnScope ["self", "word"] ["self", "word"] (defScope s_InvalidWay___init__) := ⟨rfl, rfl, rfl, by decide +kernel, rfl, by decide +kernel, by decide +kernel⟩
theorem ok_InvalidWay___init__ (T : Txt K mg) : FnOk P w K mg base CX0 1 T.a_InvalidWay___init__ T.d_InvalidWay___init__ ["self", "word"] (spErr T.C_InvalidWay "word") := by
  refine T.F_InvalidWay___init__.ok sc_InvalidWay___init__ (spErr_len _ _) (fun cdv A outer s H vs Q E hr h => ?_)
  refine ⟨_, pss_one (ps_ost (pv 0) (pv 1)), ?_⟩
  obtain ⟨a, v, rfl, ha, k⟩ := h
  exact ⟨v, rfl, .ref a, rfl, a, T.C_InvalidWay, rfl, T.o_InvalidWay, T.nf_InvalidWay, .inl ⟨ha, fun dx n ne => k dx n ne⟩⟩
theorem sc_is_count : FnScope ["value"] ["value"] (defScope s_is_count) := ⟨rfl, rfl, rfl, by decide +kernel, rfl, by decide +kernel, by decide +kernel⟩
set_option maxHeartbeats 4000000 in
theorem ok_is_count (T : Txt K mg) : FnOk P w K mg base CX0 1 T.a_is_count T.d_is_count ["value"] (spA K (c_is_count K)) := by
  refine T.F_is_count.ok sc_is_count (spA_len (F := (c_is_count K)) (by rintro ds cs R X ⟨d, n, rfl, _⟩; rfl)) (fun cdv A outer s H vs Q E hr h => ?_)
  have hu := hu_of hr
  refine ⟨_, (pss_one (ps_ret (pe_and (pe_callB (kcall_isi (K := K) rfl) (by rfl) T.n_isinstance (by decide +kernel) (pa_cons (pv 0) (pa_cons (pe_bltn (v := .ty "int") (by rfl) T.n_int (by decide +kernel) rfl) pa_nil))) (pe_and (pe_not (pe_callB (kcall_isi (K := K) rfl) (by rfl) T.n_isinstance (by decide +kernel) (pa_cons (pv 0) (pa_cons (pe_bltn (v := .ty "bool") (by rfl) T.n_bool (by decide +kernel) rfl) pa_nil)))) (pe_one (pe_cmpR op_ge (pv 0) pe_int (nomark _))))))), ?_⟩
  refine enter h (fun ds cs R X G f xq => ?_)
  clear h xq
  try dsimp only [cxOf, Cx.nox, Cx.wish]
  obtain ⟨d, n, rfl, ty, k⟩ := f
  show Xs K _ _ [some d] cs
  walk_at "ev"
  refine lv_bool (fun h1 => ?_) (fun h1 => ⟨cs.length, ?_⟩)
  · walk_at "ev"
    refine lv_bl (lv_bool (fun h2 => ?_) (fun h2 => ⟨cs.length, ?_⟩))
    · have h2' : isBoolD d = false := by simpa using h2
      obtain ⟨i, rfl⟩ := int_of h1 h2'
      walk_at "ev"
      refine ⟨cs.length, ?_⟩
      rw [List.take_length]
      exact k
    · rw [List.take_length]
      have e : isCountD d = false := by
        match d, h2 with
        | .raw (.bl _), _ => rfl
      rw [e] at k
      exact k
  · rw [List.take_length]
    have e : isCountD d = false := by
      match d, h1 with
      | .raw .non, _ => rfl
      | .raw (.str _), _ => rfl
      | .raw (.byt _), _ => rfl
      | .raw (.flt _), _ => rfl
      | .raw (.ref _), _ => rfl
      | .raw (.ty _), _ => rfl
      | .tup _, _ => rfl
      | .lst _, _ => rfl
      | .ro _, _ => rfl
      | .obj _ _ _, _ => rfl
      | .exc _ _ _ _, _ => rfl
    rw [e] at k
    exact k
theorem sc_is_sequence : FnScope ["value"] ["value"] (defScope s_is_sequence) := ⟨rfl, rfl, rfl, by decide +kernel, rfl, by decide +kernel, by decide +kernel⟩
set_option maxHeartbeats 4000000 in
theorem ok_is_sequence (T : Txt K mg) : FnOk P w K mg base CX0 1 T.a_is_sequence T.d_is_sequence ["value"] (spA K (c_is_seq K)) := by
  refine T.F_is_sequence.ok sc_is_sequence (spA_len (F := (c_is_seq K)) (by rintro ds cs R X ⟨d, n, rfl, _⟩; rfl)) (fun cdv A outer s H vs Q E hr h => ?_)
  have hu := hu_of hr
  refine ⟨_, (pss_one (ps_ret (pe_callB (kcall_isiT (K := K) rfl) (by rfl) T.n_isinstance (by decide +kernel) (pa_cons (pv 0) (pa_cons (pe_tup (pa_cons (pe_bltn (v := .ty "list") (by rfl) T.n_list (by decide +kernel) rfl) (pa_cons (pe_bltn (v := .ty "tuple") (by rfl) T.n_tuple (by decide +kernel) rfl) pa_nil))) pa_nil))))), ?_⟩
  refine enter h (fun ds cs R X G f xq => ?_)
  clear h xq
  try dsimp only [cxOf, Cx.nox, Cx.wish]
  obtain ⟨d, n, rfl, ty, k⟩ := f
  show Xs K _ _ [some d] cs
  walk_at "ev"
  refine ⟨n, ty, cs.length, ?_⟩
  rw [List.take_length]
  exact k
theorem sc_is_how : FnScope ["value"] ["value"] (defScope s_is_how) := ⟨rfl, rfl, rfl, by decide +kernel, rfl, by decide +kernel, by decide +kernel⟩
set_option maxHeartbeats 4000000 in
theorem ok_is_how (T : Txt K mg) : FnOk P w K mg base CX0 1 T.a_is_how T.d_is_how ["value"] (spA K (c_is_how K)) := by
  refine T.F_is_how.ok sc_is_how (spA_len (F := (c_is_how K)) (by rintro ds cs R X ⟨d, n, rfl, _⟩; rfl)) (fun cdv A outer s H vs Q E hr h => ?_)
  have hu := hu_of hr
  refine ⟨_, (pss_one (ps_ret (pe_and (pe_callB (kcall_isi (K := K) rfl) (by rfl) T.n_isinstance (by decide +kernel) (pa_cons (pv 0) (pa_cons (pe_bltn (v := .ty "str") (by rfl) T.n_str (by decide +kernel) rfl) pa_nil))) (pe_one (pe_cmpR (kop_in (K := K) rfl) (pv 0) (pe_glob (v := .ref T.a_HOWS) rfl T.g_HOWS rfl) (by rfl)))))), ?_⟩
  refine enter h (fun ds cs R X G f xq => ?_)
  clear h xq
  try dsimp only [cxOf, Cx.nox, Cx.wish]
  obtain ⟨d, n, rfl, ty, k⟩ := f
  show Xs K _ _ [some d] cs
  walk_at "ev"
  refine lv_bool (fun h1 => ?_) (fun h1 => ⟨cs.length, ?_⟩)
  · obtain ⟨z, rfl⟩ := str_of h1
    walk_at "ev"
    refine o2_inK T.s_HOWS rfl (by decide) ⟨cs.length, ?_⟩
    rw [List.take_length]
    have e : (if false = true then !inV (V.str z) [V.str "add", V.str "lose", V.str "mixed"] else inV (V.str z) [V.str "add", V.str "lose", V.str "mixed"]) = isHowD (.str z) := by
      show ((("add" : Str) == z) || ((("lose" : Str) == z) || ((("mixed" : Str) == z) || false))) = decide (z ∈ hows)
      have hb : ∀ a : Str, (a == z) = true ↔ z = a := fun a => by
        rw [beq_iff_eq]
        exact eq_comm
      rw [Bool.eq_iff_iff]
      simp only [Bool.or_eq_true, hb, decide_eq_true_iff, hows, List.mem_cons, List.not_mem_nil, Bool.false_eq_true]
    rw [e]
    exact k
  · rw [List.take_length]
    have e : isHowD d = false := by
      match d, h1 with
      | .raw .non, _ => rfl
      | .raw (.bl _), _ => rfl
      | .raw (.int _), _ => rfl
      | .raw (.byt _), _ => rfl
      | .raw (.flt _), _ => rfl
      | .raw (.ref _), _ => rfl
      | .raw (.ty _), _ => rfl
      | .tup _, _ => rfl
      | .lst _, _ => rfl
      | .ro _, _ => rfl
      | .obj _ _ _, _ => rfl
      | .exc _ _ _ _, _ => rfl
    rw [e] at k
    exact k
theorem sc_is_part : FnScope ["value", "at"] ["value"] (defScope s_is_part) := ⟨rfl, rfl, rfl, by decide +kernel, rfl, by decide +kernel, by decide +kernel⟩
set_option maxHeartbeats 4000000 in
theorem ok_is_part (T : Txt K mg) : FnOk P w K mg base CX0 2 T.a_is_part T.d_is_part ["value"] (spA K (c_is_part K)) := by
  have G_is_sequence := ok_is_sequence (P := P) (w := w) (base := base) T
  have G_is_count := ok_is_count (P := P) (w := w) (base := base) T
  refine T.F_is_part.ok sc_is_part (spA_len (F := (c_is_part K)) (by rintro ds cs R X ⟨d, n, rfl, _⟩; rfl)) (fun cdv A outer s H vs Q E hr h => ?_)
  have hu := hu_of hr
  refine ⟨_, (pss_one (ps_ret (pe_and (pe_call G_is_sequence (hr.mono (by decide)) rfl T.g_is_sequence T.F_is_sequence.kp T.b_is_sequence .nil pass0 (pa_cons (pv 0) pa_nil)) (pe_one (pe_callB (kcr_all (K := K) rfl rfl) (by rfl) T.n_all (by decide +kernel) (pa_cons (pe_lc (own := [("at", 1)]) (g := _) (tt := _) rfl sc_is_part.nd (pi_or (kpi_list (K := K) rfl (pv 0)) (kpi_tup (K := K) rfl (pv 0))) (blkOk_by (N := ["value", "at"]) (sc := defScope s_is_part) (by decide +kernel)) (fun _ _ _ _ _ => (pg_name (i := 1) sc_is_part.nd rfl (by first | exact .inl rfl | exact .inr rfl))) (fun _ _ _ _ _ => pts_nil) (fun _ _ _ _ _ => (pe_call G_is_count (hr.mono (by decide)) rfl T.g_is_count T.F_is_count.kp T.b_is_count .nil pass0 (pa_cons (pv 1) pa_nil)))) pa_nil)))))), ?_⟩
  refine enter h (fun ds cs R X G f xq => ?_)
  clear h xq
  try dsimp only [cxOf, Cx.nox, Cx.wish]
  obtain ⟨d, n, rfl, ty, hl, hx, k⟩ := f
  show Xs K _ _ [some d, none] cs
  walk_at "ev"
  refine ⟨d, n, rfl, ty, ?_⟩
  refine lv_bool (fun h1 => ?_) (fun h1 => ⟨cs.length, ?_⟩)
  · walk_at "ev"
    have key : ∀ xs, (∀ x ∈ xs, ∃ m, TyD K x m) → xs.length ≤ 1000 → itemsD d = xs → isPartD d = xs.all isCountD →
        Ea K tNil [some d, none] cs fun ys cs2 => Oa K (rAll K) ((.lst (xs.map fun x => .bl (isCountD x))) :: ys) cs2 fun d cs' => ∃ n, R d (cs'.take n) := by
      intro xs h2 h3 h4 h5
      walk_at "ev"
      have e : (xs.map fun x => D.bl (isCountD x)) = (xs.map isCountD).map D.bl := by rw [List.map_map]; rfl
      rw [e]
      refine oa_all ⟨cs.length, ?_⟩
      rw [List.take_length, List.all_map]
      rw [h5] at k
      exact k
    cases ty with
    | lst xs =>
      refine er_lcM (fun x => .bl (isCountD x)) (tgt_name (by decide)) ?_
      refine ei_or1 (ei_list ?_)
      walk_at "ev"
      refine ⟨xs, rfl, by have : xs.length ≤ 1000 := hl; omega, fun i x acc p hi => ?_, key xs hx hl rfl rfl⟩
      obtain ⟨m, hm⟩ := hx x (List.mem_of_getElem? hi)
      walk_at "ev"
      exact ⟨x, m, rfl, hm, rfl, rfl⟩
    | tup xs =>
      refine er_lcM (fun x => .bl (isCountD x)) (tgt_name (by decide)) ?_
      refine ei_or2 (ei_tup ?_)
      walk_at "ev"
      refine ⟨xs, rfl, by have : xs.length ≤ 1000 := hl; omega, fun i x acc p hi => ?_, key xs hx hl rfl rfl⟩
      obtain ⟨m, hm⟩ := hx x (List.mem_of_getElem? hi)
      walk_at "ev"
      exact ⟨x, m, rfl, hm, rfl, rfl⟩
    | non => exact absurd h1 Bool.false_ne_true
    | bl b => exact absurd h1 Bool.false_ne_true
    | int i => exact absurd h1 Bool.false_ne_true
    | str z => exact absurd h1 Bool.false_ne_true
  · rw [List.take_length]
    have e : isPartD d = false := by
      match d, h1 with
      | .raw _, _ => rfl
      | .ro _, _ => rfl
      | .obj _ _ _, _ => rfl
      | .exc _ _ _ _, _ => rfl
    rw [e] at k
    exact k
abbrev wayD {K : PySem.W.Frag} {mg : Str → Option Value} (T : Txt K mg) (how : Str) (mo : Option Int) (pt : Option (List Int)) : D := .obj T.C_Way wayNs (wayDs how mo pt)
def c_Way_initX {K : PySem.W.Frag} {mg : Str → Option Value} (T : Txt K mg) : Tr := fun ds cs R X => ∃ (p : Addr) (cs0 : Cells) (h m q : D), ds = [.raw (.ref p), h, m, q] ∧ cs = cs0 ++ [(p, .ins T.C_Way [] [])] ∧ OddW K h ∧ OddW K m ∧ OddW K q ∧
  (isHowD h = false → X (.ref T.C_InvalidWay) [("word", .str "how")] cs0) ∧ (isHowD h = true → goodM m = false → X (.ref T.C_InvalidWay) [("word", .str "most")] cs0) ∧
  (isHowD h = true → goodM m = true → goodP q = false → X (.ref T.C_InvalidWay) [("word", .str "part")] cs0) ∧
  ∀ how mo pt, h = .str how → how ∈ hows → m = mostD mo → MostOk mo → PartIn q pt → R .non (cs0 ++ [(p, .ins T.C_Way wayNs (wayDs how mo pt))])
theorem sc_Way___init__ : FnScope ["self", "how", "most", "part"] ["self", "how", "most", "part"] (defScope s_Way___init__) := ⟨rfl, rfl, rfl, by decide +kernel, rfl, by decide +kernel, by decide +kernel⟩
set_option maxHeartbeats 4000000 in
theorem ok_Way___init__ (T : Txt K mg) : FnOk P w K mg base (L2.CX P w) 3 T.a_Way___init__ T.d_Way___init__ ["self", "how", "most", "part"] (spA K (c_Way_initX T)) := by
  have G_is_how := ok_is_how (P := P) (w := w) (base := base) T
  have G_InvalidWay___init__ := ok_InvalidWay___init__ (P := P) (w := w) (base := base) T
  have G_is_count := ok_is_count (P := P) (w := w) (base := base) T
  have G_is_part := ok_is_part (P := P) (w := w) (base := base) T
  refine T.F_Way___init__.ok sc_Way___init__ (spA_len (F := (c_Way_initX T)) (by rintro ds cs R X ⟨_, _, _, _, _, rfl, _⟩; rfl)) (fun cdv A outer s H vs Q E hr h => ?_)
  have hu := hu_of hr
  refine ⟨_, (pss_cons (ps_if (pt_not (pt_val (pe_call G_is_how (hr.mono (by decide)) rfl T.g_is_how T.F_is_how.kp T.b_is_how .nil pass0 (pa_cons (pv 1) pa_nil)))) (pss_one (ps_raiseF rfl (takes_of rfl rfl rfl rfl) T.o_InvalidWay T.i_InvalidWay T.ti_InvalidWay G_InvalidWay___init__ (hr.mono (by decide)) T.b_InvalidWay___init__ (by rfl) T.g_InvalidWay (pa_cons pe_str pa_nil))) pss_nil)
    (pss_cons (ps_if (pt_not (PW.pt (pw_or (pt_cmp (pc_isN (pv 2))) (pw_or1 (pt_val (pe_call G_is_count (hr.mono (by decide)) rfl T.g_is_count T.F_is_count.kp T.b_is_count .nil pass0 (pa_cons (pv 2) pa_nil))))))) (pss_one (ps_raiseF rfl (takes_of rfl rfl rfl rfl) T.o_InvalidWay T.i_InvalidWay T.ti_InvalidWay G_InvalidWay___init__ (hr.mono (by decide)) T.b_InvalidWay___init__ (by rfl) T.g_InvalidWay (pa_cons pe_str pa_nil))) pss_nil)
    (pss_cons (ps_if (pt_not (PW.pt (pw_or (pt_cmp (pc_isN (pv 3))) (pw_or1 (pt_val (pe_call G_is_part (hr.mono (by decide)) rfl T.g_is_part T.F_is_part.kp T.b_is_part .nil pass0 (pa_cons (pv 3) pa_nil))))))) (pss_one (ps_raiseF rfl (takes_of rfl rfl rfl rfl) T.o_InvalidWay T.i_InvalidWay T.ti_InvalidWay G_InvalidWay___init__ (hr.mono (by decide)) T.b_InvalidWay___init__ (by rfl) T.g_InvalidWay (pa_cons pe_str pa_nil))) pss_nil)
    (pss_cons (ps_fld (pv 0) (pv 1) rfl)
    (pss_cons (ps_fld (pv 0) (pv 2) rfl)
    (pss_one (ps_fld (pv 0) (pe_ifExp (pt_cmp (pc_isN (pv 3))) pe_non (pe_callTy (kcall_tup (K := K) rfl) (by rfl) T.n_tuple (by decide +kernel) (pa_cons (pe_callB (cr_sortedSet rfl) (by rfl) T.n_sorted (by decide +kernel) (pa_cons (pe_callTy (kcr_setI (K := K) rfl rfl) (by rfl) T.n_set (by decide +kernel) (pa_cons (pv 3) pa_nil)) pa_nil)) pa_nil))) rfl))))))), ?_⟩
  refine enter h (fun ds cs R X G f xq => ?_)
  clear h xq
  try dsimp only [cxOf, Cx.nox, Cx.wish]
  obtain ⟨p, cs0, h, m, q, rfl, rfl, oh, om, oq, x1, x2, x3, kk⟩ := f
  show Xs K _ _ [some (.raw (.ref p)), some h, some m, some q] (cs0 ++ [(p, .ins T.C_Way [] [])])
  have st : ∀ (ns : List Str) (ds : List D), (cs0 ++ [(p, CO.ins T.C_Way ns ds)])[cs0.length]? = some (p, .ins T.C_Way ns ds) := fun _ _ => by simp
  have se : ∀ (ns ns2 : List Str) (ds ds2 : List D), (cs0 ++ [(p, CO.ins T.C_Way ns ds)]).set cs0.length (p, .ins T.C_Way ns2 ds2) = cs0 ++ [(p, CO.ins T.C_Way ns2 ds2)] := fun _ _ _ _ => by
    rw [List.set_append_right _ _ (Nat.le_refl _), Nat.sub_self]
    rfl
  have tk0 : (cs0 ++ [(p, CO.ins T.C_Way [] [])]).take cs0.length = cs0 := List.take_left' rfl
  refine xs_guard (B := !isHowD h) (C := cs0 ++ [(p, .ins T.C_Way [] [])]) ?_ (fun g => ?_) (fun g => ?_)
  · obtain ⟨n, tn⟩ := oh.ty
    walk_at "ev"
    exact ⟨h, n, rfl, tn, lv_bl ⟨rfl, rfl⟩⟩
  · refine xs_raiseFd (fun _ h => h) (er_c ⟨cs0.length, ?_⟩)
    rw [tk0]
    exact x1 (by simpa using g)
  have eh : isHowD h = true := by simpa using g
  refine xs_guard (B := !goodM m) (C := cs0 ++ [(p, .ins T.C_Way [] [])]) ?_ (fun g => ?_) (fun g => ?_)
  · obtain ⟨n, tn⟩ := om.ty
    walk_at "ev"
    refine lv_bl ⟨fun e => ⟨?_, rfl⟩, fun e => ?_⟩
    · unfold goodM
      rw [e]
      rfl
    · walk_at "ev"
      refine ⟨m, n, rfl, tn, lv_bl ⟨?_, rfl⟩⟩
      unfold goodM
      rw [e, Bool.false_or]
  · refine xs_raiseFd (fun _ h => h) (er_c ⟨cs0.length, ?_⟩)
    rw [tk0]
    exact x2 eh (by simpa using g)
  have em : goodM m = true := by simpa using g
  refine xs_guard (B := !goodP q) (C := cs0 ++ [(p, .ins T.C_Way [] [])]) ?_ (fun g => ?_) (fun g => ?_)
  · obtain ⟨n, tn⟩ := oq.ty
    have hl := oq.items
    walk_at "ev"
    refine lv_bl ⟨fun e => ⟨?_, rfl⟩, fun e => ?_⟩
    · unfold goodP
      rw [e]
      rfl
    · walk_at "ev"
      refine ⟨q, n, rfl, tn, by omega, oq.tys, lv_bl ⟨?_, rfl⟩⟩
      unfold goodP
      rw [e, Bool.false_or]
  · refine xs_raiseFd (fun _ h => h) (er_c ⟨cs0.length, ?_⟩)
    rw [tk0]
    exact x3 eh em (by simpa using g)
  have ep : goodP q = true := by simpa using g
  obtain ⟨how, rfl, hh⟩ := how_str eh
  obtain ⟨mo, rfl, hm⟩ := most_of em
  obtain ⟨pt, hp⟩ := part_of ep oq.items
  have k := kk how mo pt rfl hh rfl hm hp
  clear x1 x2 x3 kk eh em ep g oh om
  generalize q = part at *
  walk_at "ev"
  refine xs_fldNew ?_
  walk_at "ev"
  refine ⟨p, cs0.length, _, _, _, rfl, st _ _, T.cl_Way, T.no_Way_how, by decide, by decide, ?_⟩
  rw [se]
  walk_at "ev"
  refine xs_fldNew ?_
  walk_at "ev"
  refine ⟨p, cs0.length, _, _, _, rfl, st _ _, T.cl_Way, T.no_Way_most, by show 1 < 1000; decide, by decide, ?_⟩
  rw [se]
  walk_at "ev"
  refine xs_fldNew ?_
  have fin : ∀ {pd : D}, pd = partD pt → ∃ (p_1 : Addr) (i : Nat) (C : Addr) (ns : List Str) (ds : List D), D.raw (.ref p) = .raw (.ref p_1) ∧ (cs0 ++ [(p, CO.ins T.C_Way ([] ++ [("how" : Str)] ++ [("most" : Str)]) ([] ++ [D.str how] ++ [mostD mo]))])[i]? = some (p_1, CO.ins C ns ds) ∧ Cls K C ∧ NoAttr K C "part" ∧ ns.length < 1000 ∧ ("part" : Str) ∉ ns ∧
      ∃ n, R D.non (((cs0 ++ [(p, CO.ins T.C_Way ([] ++ [("how" : Str)] ++ [("most" : Str)]) ([] ++ [D.str how] ++ [mostD mo]))]).set i (p_1, CO.ins C (ns ++ [("part" : Str)]) (ds ++ [pd]))).take n) := by
    rintro pd rfl
    refine ⟨p, cs0.length, _, _, _, rfl, st _ _, T.cl_Way, T.no_Way_part, by show 2 < 1000; decide, by decide, (cs0 ++ [(p, CO.ins T.C_Way wayNs (wayDs how mo pt))]).length, ?_⟩
    rw [se]
    show R D.non ((cs0 ++ [(p, CO.ins T.C_Way wayNs (wayDs how mo pt))]).take _)
    rw [List.take_length]
    exact k
  walk_at "ev"
  rcases hp with ⟨rfl, rfl⟩ | ⟨ns, hns, h0, hl, rfl⟩
  · refine lv_bl ⟨fun _ => ?_, fun h => absurd h.symm Bool.false_ne_true⟩
    walk_at "ev"
    exact fin rfl
  · have e0 : isNonD part = false := by
      rcases hns with rfl | rfl <;> rfl
    rw [e0]
    refine lv_bl ⟨fun h => absurd h Bool.false_ne_true, fun _ => ?_⟩
    walk_at "ev"
    refine ⟨ns, hns, hl, ?_⟩
    walk_at "ev"
    exact fin rfl
theorem sc__law_box : FnScope ["_law_script", "_law_k", "_law_own", "_law_cell", "_law_seed"] ["_law_script", "_law_k", "_law_own"] (defScope s__law_box) := ⟨rfl, rfl, rfl, by decide +kernel, rfl, by decide +kernel, by decide +kernel⟩
set_option maxHeartbeats 4000000 in
theorem ok__law_box (T : Txt K mg) : FnOk P w K mg base CX0 1 T.a__law_box T.d__law_box ["_law_script", "_law_k", "_law_own"] (spA K c_box) := by
  refine T.F__law_box.ok sc__law_box (spA_len (F := c_box) (by rintro ds cs R X ⟨_, _, _, rfl, _⟩; rfl)) (fun cdv A outer s H vs Q E hr h => ?_)
  have hu := hu_of hr
  refine ⟨_, (pss_cons (ps_set (i := 3) sc__law_box.nd rfl (by first | exact .inl rfl | exact .inr rfl) (pe_op op_add (pe_op op_add (pe_op op_mul pe_int (pv 1)) (pe_op op_mul pe_int (pv 2))) pe_int))
    (pss_cons (ps_if (pt_cmpR op_lt (pv 1) (pe_callB (kcall_len (K := K) rfl) (by rfl) T.n_len PySem.boot_len (pa_cons (pv 0) pa_nil)) (nomark _)) (pss_one (ps_set (i := 3) sc__law_box.nd rfl (by first | exact .inl rfl | exact .inr rfl) (pe_callB kcall_abs (by rfl) T.n_abs (by decide +kernel) (pa_cons (pe_ix (kix_list (K := K) rfl) (pv 0) (pv 1) (fun _ _ => rfl)) pa_nil)))) (pss_one (ps_if (pt_cmpR op_gt (pe_callB (kcall_len (K := K) rfl) (by rfl) T.n_len PySem.boot_len (pa_cons (pv 0) pa_nil)) pe_int (nomark _)) (pss_one (ps_set (i := 3) sc__law_box.nd rfl (by first | exact .inl rfl | exact .inr rfl) (pe_op op_add (pv 3) (pe_op op_mul (pe_op op_mod (pe_callTy kcall_int1 (by rfl) T.n_int (by decide +kernel) (pa_cons (pe_callB kcall_abs (by rfl) T.n_abs (by decide +kernel) (pa_cons (pe_ix (kix_list (K := K) rfl) (pv 0) (pe_op op_mod (pe_callTy kcall_int1 (by rfl) T.n_int (by decide +kernel) (pa_cons (pv 1) pa_nil)) (pe_callB (kcall_len (K := K) rfl) (by rfl) T.n_len PySem.boot_len (pa_cons (pv 0) pa_nil))) (fun _ _ => rfl)) pa_nil)) pa_nil)) pe_int) pe_int)))) pss_nil)))
    (pss_cons (ps_set (i := 4) sc__law_box.nd rfl (by first | exact .inl rfl | exact .inr rfl) (pe_op op_add (pe_op op_mod (pe_callTy kcall_int1 (by rfl) T.n_int (by decide +kernel) (pa_cons (pe_op op_add (pe_op op_mul (pe_op op_mod (pe_callTy kcall_int1 (by rfl) T.n_int (by decide +kernel) (pa_cons (pv 3) pa_nil)) pe_int) pe_int) (pe_op op_mul pe_int (pe_op op_add (pv 1) (pe_op op_mul pe_int (pv 2))))) pa_nil)) pe_int) pe_int))
    (pss_one (ps_ret (pe_lst (pa_cons (pe_ix (kix_list (K := K) rfl) (pe_lst (pa_cons pe_int (pa_cons (pv 3) pa_nil))) (pe_callTy kcall_int1 (by rfl) T.n_int (by decide +kernel) (pa_cons (pe_cmpR op_ge (pv 3) (pe_op op_pow pe_int pe_int) (nomark _)) pa_nil)) (fun _ _ => rfl)) (pa_cons (pv 4) (pa_cons pe_int pa_nil))))))))), ?_⟩
  refine enter h (fun ds cs R X G f xq => ?_)
  clear h xq
  try dsimp only [cxOf, Cx.nox, Cx.wish]
  obtain ⟨ns, k, own, rfl, hk0, hk1, ho0, ho1, rfl, kk⟩ := f
  show Xs K _ _ [some (.ro (ns.map D.int)), some (.int k), some (.int own), none, none] []
  refine xs_seqAsg (d := .int (7727 * k + 104729 * own + 43)) (C := []) ?_ ?_
  · walk_at "ev"
    refine o2_I (.inl (by decide)) ?_
    walk_at "ev"
    refine o2_I (.inl (by decide)) ?_
    walk_at "ev"
    exact ⟨rfl, rfl⟩
  refine xs_cut (M := fun Δ cs => ∃ cell : Int, 0 ≤ cell ∧ Δ = [some (.ro (ns.map D.int)), some (.int k), some (.int own), some (.int cell), none] ∧ cs = []) ?_ ?_
  · have c0 : 0 ≤ 7727 * k + 104729 * own + 43 := by omega
    have habs : ∀ i : Int, 0 ≤ (if i < 0 then -i else i) := fun i => by split <;> omega
    refine xs_branch (B := decide (k < (ns.length : Int))) (C := []) ?_ (fun h => ?_) (fun h => ?_)
    · walk_at "ev"
      rw [List.length_map]
      exact lv_bl ⟨rfl, rfl⟩
    · have h' : k < (ns.length : Int) := of_decide_eq_true h
      have hg : (ns.map D.int)[k.toNat]? = some (.int (ns[k.toNat]'(by omega))) := by
        rw [List.getElem?_map, List.getElem?_eq_getElem (by omega)]
        rfl
      walk_at "ev"
      refine o2_ixR (atI_of (j := k.toNat) (by omega) hg) ?_
      walk_at "ev"
      exact ⟨_, habs _, rfl, rfl⟩
    · have h' : ¬ k < (ns.length : Int) := of_decide_eq_false h
      refine xs_branch (B := decide (0 < (ns.length : Int))) (C := []) ?_ (fun h2 => ?_) (fun h2 => ?_)
      · walk_at "ev"
        rw [List.length_map]
        exact lv_bl ⟨rfl, rfl⟩
      · have h2' : 0 < (ns.length : Int) := of_decide_eq_true h2
        have r0 := Int.emod_nonneg k (show (ns.length : Int) ≠ 0 by omega)
        have r1 := Int.emod_lt_of_pos k h2'
        have hg : (ns.map D.int)[(k % (ns.length : Int)).toNat]? = some (.int (ns[(k % (ns.length : Int)).toNat]'(by omega))) := by
          rw [List.getElem?_map, List.getElem?_eq_getElem (by omega)]
          rfl
        walk_at "ev"
        rw [List.length_map]
        refine o2_I h2' ?_
        refine o2_ixR (atI_of (j := (k % (ns.length : Int)).toNat) (by omega) hg) ?_
        walk_at "ev"
        refine o2_I (show (0 : Int) < 2147483629 by decide) ?_
        walk_at "ev"
        refine o2_I (.inr (by decide)) ?_
        walk_at "ev"
        refine ⟨_, ?_, rfl, rfl⟩
        have := Int.emod_nonneg (if ns[(k % (ns.length : Int)).toNat]'(by omega) < 0 then -ns[(k % (ns.length : Int)).toNat]'(by omega) else ns[(k % (ns.length : Int)).toNat]'(by omega)) (show (2147483629 : Int) ≠ 0 by decide)
        omega
      · refine xs_next ⟨_, c0, rfl, rfl⟩
  rintro Δ cs ⟨cell, hc, rfl, rfl⟩
  walk_at "ev"
  refine o2_I (show (0 : Int) < 2147483629 by decide) ?_
  walk_at "ev"
  refine o2_I (.inr (by decide)) ?_
  walk_at "ev"
  refine o2_I (.inl (by decide)) ?_
  walk_at "ev"
  refine o2_I (.inl (by decide)) ?_
  walk_at "ev"
  refine o2_I (show (0 : Int) < 2147483629 by decide) ?_
  walk_at "ev"
  generalize (((cell % 2147483629 * 48271 + 40692 * (k + 11 * own)) % 2147483629 + 1 : Int)) = seed
  refine er_lstC ?_
  walk_at "ev"
  refine er_lst ?_
  walk_at "ev"
  refine ⟨by show 2 ≤ sizeLine; decide, ?_⟩
  walk_at "ev"
  refine o2_I ⟨by decide, by decide, by decide⟩ ?_
  walk_at "ev"
  refine o2_ixL (d := .int (if (10 : Int) ^ (18 : Int).toNat ≤ cell then cell else 0)) ?_ ?_
  · by_cases hb : (10 : Int) ^ (18 : Int).toNat ≤ cell
    · rw [decide_eq_true hb, if_pos hb]
      rfl
    · rw [decide_eq_false hb, if_neg hb]
      rfl
  walk_at "ev"
  refine ⟨by show 3 ≤ sizeLine; decide, fun p => ⟨1, ?_⟩⟩
  refine kk p _ _ _ ?_
  split <;> omega
theorem sc__law_take : FnScope ["_law_box_here", "_law_bound", "_law_raw", "_law_wide", "_law_digit"] ["_law_box_here", "_law_bound"] (defScope s__law_take) := ⟨rfl, rfl, rfl, by decide +kernel, rfl, by decide +kernel, by decide +kernel⟩
set_option maxHeartbeats 4000000 in
theorem ok__law_take (T : Txt K mg) : FnOk P w K mg base CX0 1 T.a__law_take T.d__law_take ["_law_box_here", "_law_bound"] (spA K c_take) := by
  refine T.F__law_take.ok sc__law_take (spA_len (F := c_take) (by rintro ds cs R X ⟨_, _, _, _, _, _, rfl, _⟩; rfl)) (fun cdv A outer s H vs Q E hr h => ?_)
  have hu := hu_of hr
  refine ⟨_, (pss_cons (ps_if (pt_cmpR op_gt (pe_ix (kix_list (K := K) rfl) (pv 0) pe_int (fun _ _ => rfl)) pe_int (nomark _)) (pss_cons (ps_set (i := 4) sc__law_take.nd rfl (by first | exact .inl rfl | exact .inr rfl) (pe_op op_mod (pe_callTy kcall_int1 (by rfl) T.n_int (by decide +kernel) (pa_cons (pe_ix (kix_list (K := K) rfl) (pv 0) pe_int (fun _ _ => rfl)) pa_nil)) (pv 1)))
    (pss_cons (ps_asg (pe_op op_fdiv (pe_ix (kix_list (K := K) rfl) (pv 0) pe_int (fun _ _ => rfl)) (pv 1)) (pg_sub (pv 0) pe_int set_list))
    (pss_one (ps_ret (pv 4))))) pss_nil)
    (pss_cons (ps_asg (pe_op op_add (pe_ix (kix_list (K := K) rfl) (pv 0) pe_int (fun _ _ => rfl)) pe_int) (pg_sub (pv 0) pe_int set_list))
    (pss_cons (ps_set (i := 2) sc__law_take.nd rfl (by first | exact .inl rfl | exact .inr rfl) (pe_op op_mod (pe_callTy kcall_int1 (by rfl) T.n_int (by decide +kernel) (pa_cons (pe_op op_mul (pe_op op_add (pe_ix (kix_list (K := K) rfl) (pv 0) pe_int (fun _ _ => rfl)) (pe_op op_mul pe_int (pe_ix (kix_list (K := K) rfl) (pv 0) pe_int (fun _ _ => rfl)))) pe_int) pa_nil)) pe_int))
    (pss_cons (ps_asg (pe_op op_add (pe_op op_mod (pe_callTy kcall_int1 (by rfl) T.n_int (by decide +kernel) (pa_cons (pe_op op_add (pe_op op_mul (pv 2) pe_int) pe_int) pa_nil)) pe_int) pe_int) (pg_sub (pv 0) pe_int set_list))
    (pss_cons (ps_if (pt_cmpR op_lt (pv 1) (pe_op op_pow pe_int pe_int) (nomark _)) (pss_one (ps_ret (pe_op op_mod (pe_callTy kcall_int1 (by rfl) T.n_int (by decide +kernel) (pa_cons (pe_op op_fdiv (pe_op op_add (pe_op op_mul (pv 2) pe_int) (pe_ix (kix_list (K := K) rfl) (pv 0) pe_int (fun _ _ => rfl))) pe_int) pa_nil)) (pv 1)))) pss_nil)
    (pss_cons (ps_set (i := 3) sc__law_take.nd rfl (by first | exact .inl rfl | exact .inr rfl) (pe_op op_mul (pe_op op_add (pe_op op_mul (pv 2) pe_int) (pe_ix (kix_list (K := K) rfl) (pv 0) pe_int (fun _ _ => rfl))) (pe_op op_pow pe_int pe_int)))
    (pss_one (ps_ret (pe_op op_mod (pe_callTy kcall_int1 (by rfl) T.n_int (by decide +kernel) (pa_cons (pe_op op_add (pe_op op_add (pv 3) (pe_op op_mul (pe_op op_pow (pe_ix (kix_list (K := K) rfl) (pv 0) pe_int (fun _ _ => rfl)) pe_int) pe_int)) (pv 2)) pa_nil)) (pv 1)))))))))), ?_⟩
  refine enter h (fun ds cs R X G f xq => ?_)
  clear h xq
  try dsimp only [cxOf, Cx.nox, Cx.wish]
  obtain ⟨p, a, b, c, n, cs0, rfl, rfl, ha, hn0, hn1, kk⟩ := f
  show Xs K _ _ [some (.raw (.ref p)), some (.int n), none, none, none] (boxC p a b c :: cs0)
  have i0 : ∀ {a b c : Int}, atI [D.int a, D.int b, D.int c] 0 = some (.int a) := rfl
  have i1 : ∀ {a b c : Int}, atI [D.int a, D.int b, D.int c] 1 = some (.int b) := rfl
  have i2 : ∀ {a b c : Int}, atI [D.int a, D.int b, D.int c] 2 = some (.int c) := rfl
  have s0 : ∀ {a b c : Int} , (boxC p a b c :: cs0)[0]? = some (p, CO.lst [.int a, .int b, .int c]) := rfl
  refine xs_guard (B := decide (0 < a)) (C := boxC p a b c :: cs0) ?_ (fun h => ?_) (fun h => ?_)
  · walk_at "ev"
    refine o2_ixC s0 i0 ?_
    walk_at "ev"
    exact lv_bl ⟨rfl, rfl⟩
  · have h' : 0 < a := of_decide_eq_true h
    walk_at "ev"
    refine o2_ixC s0 i0 ?_
    walk_at "ev"
    refine o2_I hn0 ?_
    walk_at "ev"
    refine xs_asgG ?_
    walk_at "ev"
    refine o2_ixC s0 i0 ?_
    walk_at "ev"
    refine o2_I ⟨hn0, by omega⟩ ?_
    refine gg_sub ?_
    walk_at "ev"
    refine ⟨p, 0, _, 0, 0, rfl, rfl, s0, rfl, ?_⟩
    walk_at "ev"
    refine ⟨(boxC p (a / n) b c :: cs0).length, ?_⟩
    show R _ ((boxC p (a / n) b c :: cs0).take _)
    rw [List.take_length]
    exact kk _ _ _ _ (Int.emod_nonneg _ (by omega)) (Int.emod_lt_of_pos _ hn0) (Int.ediv_nonneg ha (by omega))
  · refine xs_seq (xs_asgG ?_)
    walk_at "ev"
    refine o2_ixC s0 i2 ?_
    walk_at "ev"
    refine gg_sub ?_
    walk_at "ev"
    refine ⟨p, 0, _, 2, 2, rfl, rfl, s0, rfl, ?_⟩
    show Xs K _ _ _ (boxC p a b (c + 1) :: cs0)
    walk_at "ev"
    refine o2_ixC s0 i1 ?_
    walk_at "ev"
    refine o2_ixC s0 i2 ?_
    walk_at "ev"
    refine o2_I (.inl (by decide)) ?_
    walk_at "ev"
    refine o2_I (.inr (by decide)) ?_
    walk_at "ev"
    refine o2_I (show (0 : Int) < 2147483647 by decide) ?_
    generalize ((b + 104729 * (c + 1)) * 69623 % 2147483647 : Int) = raw
    refine xs_seq (xs_asgG ?_)
    walk_at "ev"
    refine o2_I (.inr (by decide)) ?_
    walk_at "ev"
    refine o2_I (show (0 : Int) < 2147483629 by decide) ?_
    walk_at "ev"
    refine gg_sub ?_
    walk_at "ev"
    refine ⟨p, 0, _, 1, 1, rfl, rfl, s0, rfl, ?_⟩
    generalize ((raw * 48271 + 30103) % 2147483629 + 1 : Int) = seed
    show Xs K _ _ _ (boxC p a seed (c + 1) :: cs0)
    refine xs_guard (B := true) (C := boxC p a seed (c + 1) :: cs0) ?_ (fun _ => ?_) (fun h => absurd h.symm Bool.false_ne_true)
    · walk_at "ev"
      refine o2_I ⟨by decide, by decide, by decide⟩ ?_
      walk_at "ev"
      refine lv_bl ⟨?_, rfl⟩
      refine decide_eq_true ?_
      show n < (2 : Int) ^ (40 : Int).toNat
      have e : (2 : Int) ^ (40 : Int).toNat = 1099511627776 := by decide
      rw [e]
      omega
    · walk_at "ev"
      refine o2_I (.inr (by decide)) ?_
      walk_at "ev"
      refine o2_ixC s0 i1 ?_
      walk_at "ev"
      refine o2_I ⟨by decide, by decide⟩ ?_
      walk_at "ev"
      refine o2_I hn0 ?_
      refine ⟨(boxC p a seed (c + 1) :: cs0).length, ?_⟩
      rw [List.take_length]
      exact kk _ _ _ _ (Int.emod_nonneg _ (by omega)) (Int.emod_lt_of_pos _ hn0) ha
theorem sc__law_pick : FnScope ["_law_box_here", "_law_items"] ["_law_box_here", "_law_items"] (defScope s__law_pick) := ⟨rfl, rfl, rfl, by decide +kernel, rfl, by decide +kernel, by decide +kernel⟩
set_option maxHeartbeats 4000000 in
theorem ok__law_pick (T : Txt K mg) : FnOk P w K mg base CX0 2 T.a__law_pick T.d__law_pick ["_law_box_here", "_law_items"] (spA K c_pick) := by
  have G__law_take := ok__law_take (P := P) (w := w) (base := base) T
  refine T.F__law_pick.ok sc__law_pick (spA_len (F := c_pick) (by rintro ds cs R X ⟨_, _, _, _, _, _, rfl, _⟩; rfl)) (fun cdv A outer s H vs Q E hr h => ?_)
  have hu := hu_of hr
  refine ⟨_, (pss_one (ps_ret (pe_ix (kix_list (K := K) rfl) (pv 1) (pe_call G__law_take (hr.mono (by decide)) rfl T.g__law_take T.F__law_take.kp T.b__law_take .nil pass0 (pa_cons (pv 0) (pa_cons (pe_callB (kcall_len (K := K) rfl) (by rfl) T.n_len PySem.boot_len (pa_cons (pv 1) pa_nil)) pa_nil))) (fun _ _ => rfl)))), ?_⟩
  refine enter h (fun ds cs R X G f xq => ?_)
  clear h xq
  try dsimp only [cxOf, Cx.nox, Cx.wish]
  obtain ⟨p, a, b, c, cs0, xs, rfl, rfl, ha, hx, hl, kk⟩ := f
  show Xs K _ _ [some (.raw (.ref p)), some (.lst xs)] (boxC p a b c :: cs0)
  have h0 : 0 < xs.length := List.length_pos_iff.mpr hx
  walk_at "ev"
  refine ⟨p, a, b, c, (xs.length : Int), cs0, rfl, rfl, ha, by omega, by omega, fun r a' b' c' hr0 hr1 ha' => ?_⟩
  have hi : r.toNat < xs.length := by omega
  have hg : xs[r.toNat]? = some (xs[r.toNat]) := List.getElem?_eq_getElem hi
  refine o2_ixL (atI_of (j := r.toNat) (by omega) hg) ⟨(boxC p a' b' c' :: cs0).length, ?_⟩
  rw [List.take_length]
  exact kk _ _ _ _ _ hg ha'
structure Odd (K : PySem.W.Frag) (d : D) : Prop where
  ty : ∃ n, TyD K d n
  len : ∀ s, d = .str s → s.length ≤ 1000
  ok : okD d = true
  sh : SeqAt.shaped (pdD d) = true
  st : isStickD d = true → d = .str "."
def oddL : List D := [.int 0, .int (-3), .int ((10 : Int) ^ (9 : Int).toNat), .str "", .str ".", .non, .bl true, .bl false, .lst [], .lst [.int 1, .str "x"], .tup [.str "x", .non], .tup [], .str "add", .int 2, .str "x y", .lst [.str "."], .str "X"]
def deepD : Nat → D
  | 0 => .tup []
  | i + 1 => if i % 2 = 0 then .lst [deepD i, .int 1] else .tup [deepD i]
theorem oddL_ok {K : PySem.W.Frag} : ∀ d ∈ oddL ++ [deepD 7], Odd K d := by
  have st : ∀ {z : Str}, z.length ≤ 1000 → SeqAt.shaped (pdD (.str z)) = true → (isStickS z = true → z = ".") → Odd K (.str z) := fun h1 h3 h2 => ⟨⟨_, .str _⟩, fun s e => by cases e; exact h1, rfl, h3, fun h => by rw [h2 h]⟩
  have it : ∀ z : Int, Odd K (.int z) := fun z => ⟨⟨_, .int _⟩, fun s e => (by cases e), rfl, rfl, fun h => absurd h Bool.false_ne_true⟩
  have bo : ∀ z : Bool, Odd K (.bl z) := fun z => ⟨⟨_, .bl _⟩, fun s e => (by cases e), rfl, rfl, fun h => absurd h Bool.false_ne_true⟩
  have no : Odd K .non := ⟨⟨_, .non⟩, fun s e => (by cases e), rfl, rfl, fun h => absurd h Bool.false_ne_true⟩
  have li : ∀ l, okL l = true → SeqAt.shaped (pdD (.lst l)) = true → Odd K (.lst l) := fun l h1 h2 => ⟨⟨_, .lst _⟩, fun s e => (by cases e), h1, h2, fun h => absurd h Bool.false_ne_true⟩
  have tu : ∀ l, okL l = true → SeqAt.shaped (pdD (.tup l)) = true → Odd K (.tup l) := fun l h1 h2 => ⟨⟨_, .tup _⟩, fun s e => (by cases e), h1, h2, fun h => absurd h Bool.false_ne_true⟩
  intro d hd
  have e7 : deepD 7 = .lst [deepD 6, .int 1] := rfl
  rw [e7] at hd
  simp only [oddL, List.cons_append, List.nil_append, List.mem_cons, List.not_mem_nil, or_false] at hd
  rcases hd with h | h | h | h | h | h | h | h | h | h | h | h | h | h | h | h | h | h
  · rw [h]; exact it _
  · rw [h]; exact it _
  · rw [h]; exact it _
  · rw [h]; exact st (by decide) (by decide +kernel) (by decide)
  · rw [h]; exact st (by decide) (by decide +kernel) (fun _ => rfl)
  · rw [h]; exact no
  · rw [h]; exact bo _
  · rw [h]; exact bo _
  · rw [h]; exact li _ rfl (by decide +kernel)
  · rw [h]; exact li _ rfl (by decide +kernel)
  · rw [h]; exact tu _ rfl (by decide +kernel)
  · rw [h]; exact tu _ rfl (by decide +kernel)
  · rw [h]; exact st (by decide) (by decide +kernel) (by decide)
  · rw [h]; exact it _
  · rw [h]; exact st (by decide) (by decide +kernel) (by decide)
  · rw [h]; exact li _ rfl (by decide +kernel)
  · rw [h]; exact st (by decide) (by decide +kernel) (by decide)
  · rw [h]; exact li _ rfl (by decide +kernel)
def c_value (K : PySem.W.Frag) : Tr := fun ds cs R _ => ∃ (p : Addr) (a b c : Int) (cs0 : Cells), ds = [.raw (.ref p)] ∧ cs = boxC p a b c :: cs0 ∧ 0 ≤ a ∧ ∀ d a' b' c', Odd K d → 0 ≤ a' → R d (boxC p a' b' c' :: cs0)

def c_valueM : Tr := fun ds cs R _ => ∃ (p : Addr) (a b c : Int) (cs0 : Cells), ds = [.raw (.ref p)] ∧ cs = boxC p a b c :: cs0 ∧ 0 ≤ a ∧ ∀ d a' b' c', d ∈ oddL ++ [deepD 7] → 0 ≤ a' → R d (boxC p a' b' c' :: cs0)
theorem sc__law_value : FnScope ["_law_box_here", "_law_some", "_law_deep", "_law_turn"] ["_law_box_here"] (defScope s__law_value) := ⟨rfl, rfl, rfl, by decide +kernel, rfl, by decide +kernel, by decide +kernel⟩
set_option maxHeartbeats 4000000 in
theorem ok__law_value (T : Txt K mg) : FnOk P w K mg base CX0 3 T.a__law_value T.d__law_value ["_law_box_here"] (spA K c_valueM) := by
  have G__law_pick := ok__law_pick (P := P) (w := w) (base := base) T
  refine T.F__law_value.ok sc__law_value (spA_len (F := c_valueM) (by rintro ds cs R X ⟨_, _, _, _, _, rfl, _⟩; rfl)) (fun cdv A outer s H vs Q E hr h => ?_)
  have hu := hu_of hr
  refine ⟨_, (pss_cons (ps_set (i := 1) sc__law_value.nd rfl (by first | exact .inl rfl | exact .inr rfl) (pe_lst (pa_cons pe_int (pa_cons (pe_un un_neg pe_int) (pa_cons (pe_op op_pow pe_int pe_int) (pa_cons pe_str (pa_cons pe_str (pa_cons pe_non (pa_cons pe_bl (pa_cons pe_bl (pa_cons (pe_lst pa_nil) (pa_cons (pe_lst (pa_cons pe_int (pa_cons pe_str pa_nil))) (pa_cons (pe_tup (pa_cons pe_str (pa_cons pe_non pa_nil))) (pa_cons (pe_tup pa_nil) (pa_cons pe_str (pa_cons pe_int (pa_cons pe_str (pa_cons (pe_lst (pa_cons pe_str pa_nil)) (pa_cons pe_str pa_nil)))))))))))))))))))
    (pss_cons (ps_set (i := 2) sc__law_value.nd rfl (by first | exact .inl rfl | exact .inr rfl) (pe_tup pa_nil))
    (pss_cons (ps_for PassesOwn.never rfl (pi_range1 (by rfl) T.n_range (pa_cons pe_int pa_nil)) (pg_name (i := 3) sc__law_value.nd rfl (by first | exact .inl rfl | exact .inr rfl))
    (pss_one (ps_set (i := 2) sc__law_value.nd rfl (by first | exact .inl rfl | exact .inr rfl) (pe_ifExp (pt_cmpR op_eq (pe_op op_mod (pv 3) pe_int) pe_int (nomark _)) (pe_lst (pa_cons (pv 2) (pa_cons pe_int pa_nil))) (pe_tup (pa_cons (pv 2) pa_nil))))))
    (pss_one (ps_ret (pe_call G__law_pick (hr.mono (by decide)) rfl T.g__law_pick T.F__law_pick.kp T.b__law_pick .nil pass0 (pa_cons (pv 0) (pa_cons (pe_op op_cat (pv 1) (pe_lst (pa_cons (pv 2) pa_nil))) pa_nil)))))))), ?_⟩
  refine enter h (fun ds cs R X G f xq => ?_)
  clear h xq
  try dsimp only [cxOf, Cx.nox, Cx.wish]
  obtain ⟨p, a, b, c, cs0, rfl, rfl, ha, k⟩ := f
  show Xs K _ _ [some (.raw (.ref p)), none, none, none] (boxC p a b c :: cs0)
  refine xs_seqAsg (d := .lst oddL) (C := boxC p a b c :: cs0) ?_ ?_
  · refine er_lst ?_
    repeat (first
      | walk_at "e"
      | dsimp only
      | (with_reducible refine er_lst ?_)
      | (refine o2_I ⟨by decide, by decide, by decide⟩ ?_)
      | (refine ⟨by decide +kernel, ?_⟩))
    exact ⟨rfl, rfl⟩
  refine xs_seqAsg (d := .tup []) (C := boxC p a b c :: cs0) ?_ ?_
  · walk_at "ev"
    exact ⟨by decide +kernel, rfl, rfl⟩
  refine xs_cut (M := fun Δ cs => ∃ x, Δ = [some (.raw (.ref p)), some (.lst oddL), some (deepD 7), x] ∧ cs = boxC p a b c :: cs0) ?_ ?_
  · refine xs_for (ei_range ?_)
    walk_at "ev"
    refine ⟨7, rfl, by decide, by decide, fun i Δ cs => ∃ x, Δ = [some (.raw (.ref p)), some (.lst oddL), some (deepD i), x] ∧ cs = boxC p a b c :: cs0, ⟨_, rfl, rfl⟩, ?_, ?_⟩
    · rintro i d Δ cs hd ⟨x, rfl, rfl⟩
      obtain ⟨hi, rfl⟩ := rangeD_get hd
      refine gg_name ?_
      show Xs K _ _ [some (.raw (.ref p)), some (.lst oddL), some (deepD i), some (.int i)] (boxC p a b c :: cs0)
      walk_at "ev"
      refine o2_I (show (0 : Int) < 2 by decide) ?_
      walk_at "ev"
      refine lv_bl ⟨fun h => ?_, fun h => ?_⟩
      · refine er_lst ?_
        walk_at "ev"
        refine ⟨by show 2 ≤ sizeLine; decide, some (.int i), ?_, rfl⟩
        have h2 : i % 2 = 0 := by
          have := of_decide_eq_true h
          omega
        have e : deepD (i + 1) = D.lst [deepD i, .int 1] := by
          show (if i % 2 = 0 then D.lst [deepD i, .int 1] else D.tup [deepD i]) = _
          rw [if_pos h2]
        rw [e]
        rfl
      · walk_at "ev"
        refine ⟨by show 1 ≤ sizeLine; decide, some (.int i), ?_, rfl⟩
        have h2 : ¬ i % 2 = 0 := by
          have := of_decide_eq_false h
          omega
        have e : deepD (i + 1) = D.tup [deepD i] := by
          show (if i % 2 = 0 then D.lst [deepD i, .int 1] else D.tup [deepD i]) = _
          rw [if_neg h2]
        rw [e]
        rfl
    · rintro Δ cs ⟨x, rfl, rfl⟩
      exact ⟨x, rfl, rfl⟩
  rintro Δ cs ⟨x, rfl, rfl⟩
  walk_at "ev"
  refine er_lst ?_
  walk_at "ev"
  refine ⟨by decide +kernel, o2_cat (by decide +kernel) ?_⟩
  walk_at "ev"
  refine ⟨p, a, b, c, cs0, oddL ++ [deepD 7], rfl, rfl, ha, by decide, by decide, fun i d a' b' c' hd ha' => ⟨(boxC p a' b' c' :: cs0).length, ?_⟩⟩
  rw [List.take_length]
  exact k d a' b' c' (List.mem_of_getElem? hd) ha'
theorem sc__law_is_number : FnScope ["_law_value_here"] ["_law_value_here"] (defScope s__law_is_number) := ⟨rfl, rfl, rfl, by decide +kernel, rfl, by decide +kernel, by decide +kernel⟩
set_option maxHeartbeats 4000000 in
theorem ok__law_is_number (T : Txt K mg) : FnOk P w K mg base CX0 1 T.a__law_is_number T.d__law_is_number ["_law_value_here"] (spA K (c_is_count K)) := by
  refine T.F__law_is_number.ok sc__law_is_number (spA_len (F := (c_is_count K)) (by rintro ds cs R X ⟨d, n, rfl, _⟩; rfl)) (fun cdv A outer s H vs Q E hr h => ?_)
  have hu := hu_of hr
  refine ⟨_, (pss_one (ps_ret (pe_and (pe_callB (kcall_isi (K := K) rfl) (by rfl) T.n_isinstance (by decide +kernel) (pa_cons (pv 0) (pa_cons (pe_bltn (v := .ty "int") (by rfl) T.n_int (by decide +kernel) rfl) pa_nil))) (pe_and (pe_not (pe_callB (kcall_isi (K := K) rfl) (by rfl) T.n_isinstance (by decide +kernel) (pa_cons (pv 0) (pa_cons (pe_bltn (v := .ty "bool") (by rfl) T.n_bool (by decide +kernel) rfl) pa_nil)))) (pe_one (pe_cmpR op_ge (pv 0) pe_int (nomark _))))))), ?_⟩
  refine enter h (fun ds cs R X G f xq => ?_)
  clear h xq
  try dsimp only [cxOf, Cx.nox, Cx.wish]
  obtain ⟨d, n, rfl, ty, k⟩ := f
  show Xs K _ _ [some d] cs
  walk_at "ev"
  refine lv_bool (fun h1 => ?_) (fun h1 => ⟨cs.length, ?_⟩)
  · walk_at "ev"
    refine lv_bl (lv_bool (fun h2 => ?_) (fun h2 => ⟨cs.length, ?_⟩))
    · have h2' : isBoolD d = false := by simpa using h2
      obtain ⟨i, rfl⟩ := int_of h1 h2'
      walk_at "ev"
      refine ⟨cs.length, ?_⟩
      rw [List.take_length]
      exact k
    · rw [List.take_length]
      have e : isCountD d = false := by
        match d, h2 with
        | .raw (.bl _), _ => rfl
      rw [e] at k
      exact k
  · rw [List.take_length]
    have e : isCountD d = false := by
      match d, h1 with
      | .raw .non, _ => rfl
      | .raw (.str _), _ => rfl
      | .raw (.byt _), _ => rfl
      | .raw (.flt _), _ => rfl
      | .raw (.ref _), _ => rfl
      | .raw (.ty _), _ => rfl
      | .tup _, _ => rfl
      | .lst _, _ => rfl
      | .ro _, _ => rfl
      | .obj _ _ _, _ => rfl
      | .exc _ _ _ _, _ => rfl
    rw [e] at k
    exact k
def dueW (h m q : D) : D := if isHowD h = false then .str "how" else if goodM m = false then .str "most" else if goodP q = false then .str "part" else .non
structure OddX (K : PySem.W.Frag) (d : D) : Prop extends OddW K d where
  ok : okL (itemsD d) = true
  sh : SeqAt.shaped (pdD (.lst (itemsD d))) = true
def c_due (K : PySem.W.Frag) : Tr := fun ds cs R _ => ∃ (h m q : D), ds = [h, m, q] ∧ OddX K h ∧ OddX K m ∧ OddX K q ∧ R (dueW h m q) cs
theorem not_all {l : List D} : (l.filter fun x => !isCountD x).isEmpty = l.all isCountD := by
  induction l with
  | nil => rfl
  | cons a r ih =>
    rw [List.filter_cons, List.all_cons, ← ih]
    cases isCountD a <;> rfl
theorem how_in (z : Str) : (!inV (V.str z) [V.str "add", V.str "lose", V.str "mixed"]) = !isHowD (.str z) := by
  show (!((("add" : Str) == z) || ((("lose" : Str) == z) || ((("mixed" : Str) == z) || false)))) = !decide (z ∈ hows)
  have hb : ∀ a : Str, (a == z) = true ↔ z = a := fun a => by
    rw [beq_iff_eq]
    exact eq_comm
  congr 1
  rw [Bool.eq_iff_iff]
  simp only [Bool.or_eq_true, hb, decide_eq_true_iff, hows, List.mem_cons, List.not_mem_nil, Bool.false_eq_true]
theorem notHow {d : D} (h : isStrD d = false) : isHowD d = false := by
  match d, h with
  | .raw .non, _ => rfl
  | .raw (.bl _), _ => rfl
  | .raw (.int _), _ => rfl
  | .raw (.byt _), _ => rfl
  | .raw (.flt _), _ => rfl
  | .raw (.ref _), _ => rfl
  | .raw (.ty _), _ => rfl
  | .tup _, _ => rfl
  | .lst _, _ => rfl
  | .ro _, _ => rfl
  | .obj _ _ _, _ => rfl
  | .exc _ _ _ _, _ => rfl
theorem notPart {d : D} (h : (isListD d || isTupD d) = false) : isPartD d = false := by
  match d, h with
  | .raw _, _ => rfl
  | .ro _, _ => rfl
  | .obj _ _ _, _ => rfl
  | .exc _ _ _ _, _ => rfl
theorem sc__law_due : FnScope ["_law_how", "_law_most", "_law_part", "_law_one"] ["_law_how", "_law_most", "_law_part"] (defScope s__law_due) := ⟨rfl, rfl, rfl, by decide +kernel, rfl, by decide +kernel, by decide +kernel⟩
set_option maxHeartbeats 4000000 in
theorem ok__law_due (T : Txt K mg) : FnOk P w K mg base CX0 2 T.a__law_due T.d__law_due ["_law_how", "_law_most", "_law_part"] (spA K (c_due K)) := by
  have G__law_is_number := ok__law_is_number (P := P) (w := w) (base := base) T
  refine T.F__law_due.ok sc__law_due (spA_len (F := (c_due K)) (by rintro ds cs R X ⟨_, _, _, rfl, _⟩; rfl)) (fun cdv A outer s H vs Q E hr h => ?_)
  have hu := hu_of hr
  refine ⟨_, (pss_cons (ps_if (PW.pt (pw_or (pt_not (pt_val (pe_callB (kcall_isi (K := K) rfl) (by rfl) T.n_isinstance (by decide +kernel) (pa_cons (pv 0) (pa_cons (pe_bltn (v := .ty "str") (by rfl) T.n_str (by decide +kernel) rfl) pa_nil))))) (pw_or1 (pt_cmpR (kop_notIn (K := K) rfl) (pv 0) (pe_tup (pa_cons pe_str (pa_cons pe_str (pa_cons pe_str pa_nil)))) (by rfl))))) (pss_one (ps_ret pe_str)) pss_nil)
    (pss_cons (ps_if (PW.pt (pw_and (pt_cmp (pc_notN (pv 1))) (pw_and1 (pt_not (pt_val (pe_call G__law_is_number (hr.mono (by decide)) rfl T.g__law_is_number T.F__law_is_number.kp T.b__law_is_number .nil pass0 (pa_cons (pv 1) pa_nil))))))) (pss_one (ps_ret pe_str)) pss_nil)
    (pss_cons (ps_if (pt_cmp (pc_isN (pv 2))) (pss_one (ps_ret pe_non)) pss_nil)
    (pss_cons (ps_if (pt_not (pt_val (pe_callB (kcall_isiT (K := K) rfl) (by rfl) T.n_isinstance (by decide +kernel) (pa_cons (pv 2) (pa_cons (pe_tup (pa_cons (pe_bltn (v := .ty "list") (by rfl) T.n_list (by decide +kernel) rfl) (pa_cons (pe_bltn (v := .ty "tuple") (by rfl) T.n_tuple (by decide +kernel) rfl) pa_nil))) pa_nil))))) (pss_one (ps_ret pe_str)) pss_nil)
    (pss_one (ps_ret (pe_ifExp (pt_cmpR (kop_eqD (K := K) rfl hr.units) (pe_lc (own := [("_law_one", 3)]) (g := _) (tt := _) rfl sc__law_due.nd (pi_or (kpi_list (K := K) rfl (pv 2)) (kpi_tup (K := K) rfl (pv 2))) (blkOk_by (N := ["_law_how", "_law_most", "_law_part", "_law_one"]) (sc := defScope s__law_due) (by decide +kernel)) (fun _ _ _ _ _ => (pg_name (i := 3) sc__law_due.nd rfl (by first | exact .inl rfl | exact .inr rfl))) (fun _ _ _ _ _ => (pts_one (pt_not (pt_val (pe_call G__law_is_number (hr.mono (by decide)) rfl T.g__law_is_number T.F__law_is_number.kp T.b__law_is_number .nil pass0 (pa_cons (pv 3) pa_nil)))))) (fun _ _ _ _ _ => (pv 3))) (pe_lst pa_nil) (nomark _)) pe_non pe_str))))))), ?_⟩
  refine enter h (fun ds cs R X G f xq => ?_)
  clear h xq
  try dsimp only [cxOf, Cx.nox, Cx.wish]
  obtain ⟨h, m, q, rfl, oh, om, oq, kk⟩ := f
  show Xs K _ _ [some h, some m, some q, none] cs
  have fin : ∀ {d : D}, d = dueW h m q → ∃ n, R d (cs.take n) := fun e => ⟨cs.length, by rw [List.take_length, e]; exact kk⟩
  refine xs_guard (B := !isHowD h) (C := cs) ?_ (fun g => ?_) (fun g => ?_)
  · obtain ⟨n, tn⟩ := oh.ty
    walk_at "ev"
    refine lv_bl ⟨fun e => ⟨?_, rfl⟩, fun e => ?_⟩
    · rw [notHow (by simpa using e)]
      rfl
    · obtain ⟨z, rfl⟩ := str_of (show isStrD h = true by simpa using e)
      walk_at "ev"
      refine ⟨by show 3 ≤ sizeLine; decide, ?_⟩
      show O2 K (rIn K true) (D.raw (V.str z)) (.tup ([V.str "add", V.str "lose", V.str "mixed"].map D.raw)) _ _
      refine o2_inT rfl rfl (lv_bl ⟨?_, rfl⟩)
      exact how_in z
  · walk_at "ev"
    exact fin (if_pos (by simpa using g)).symm
  have eh : isHowD h = true := by simpa using g
  have nh : ¬ isHowD h = false := by rw [eh]; exact fun z => nomatch z
  refine xs_guard (B := !goodM m) (C := cs) ?_ (fun g => ?_) (fun g => ?_)
  · obtain ⟨n, tn⟩ := om.ty
    walk_at "ev"
    refine lv_bl ⟨fun e => ?_, fun e => ⟨?_, rfl⟩⟩
    · have e2 : isNonD m = false := by simpa using e
      walk_at "ev"
      refine ⟨m, n, rfl, tn, lv_bl ⟨?_, rfl⟩⟩
      unfold goodM
      rw [e2, Bool.false_or]
    · have e2 : isNonD m = true := by simpa using e
      unfold goodM
      rw [e2]
      rfl
  · walk_at "ev"
    refine fin ?_
    unfold dueW
    rw [if_neg nh, if_pos (by simpa using g)]
  have em : goodM m = true := by simpa using g
  have nm : ¬ goodM m = false := by rw [em]; exact fun z => nomatch z
  have ed : dueW h m q = if goodP q = false then .str "part" else .non := by
    unfold dueW
    rw [if_neg nh, if_neg nm]
  rw [ed] at fin
  refine xs_guard (B := isNonD q) (C := cs) ?_ (fun g => ?_) (fun g => ?_)
  · walk_at "ev"
    exact lv_bl ⟨rfl, rfl⟩
  · walk_at "ev"
    refine fin ?_
    have : goodP q = true := by unfold goodP; rw [g]; rfl
    rw [if_neg (by rw [this]; exact fun z => nomatch z)]
  have egp : goodP q = isPartD q := by unfold goodP; rw [g, Bool.false_or]
  rw [egp] at fin
  obtain ⟨nq, tq⟩ := oq.ty
  refine xs_guard (B := !(isListD q || isTupD q)) (C := cs) ?_ (fun g => ?_) (fun g => ?_)
  · walk_at "ev"
    exact ⟨nq, tq, lv_bl ⟨rfl, rfl⟩⟩
  · walk_at "ev"
    exact fin (if_pos (notPart (by simpa using g))).symm
  have gs : (isListD q || isTupD q) = true := by
    rw [Bool.not_eq_false'] at g
    exact g
  refine xs_ret (er_if (et_then (B := isPartD q) (C := cs) ?_ ⟨fun e => ?_, fun e => ?_⟩))
  · have key : ∀ xs : List D, itemsD q = xs → isPartD q = xs.all isCountD → Er K (tLst tNil) [some h, some m, some q, none] cs fun y cs2 => O2 K (rEqD K) (.lst ((xs.filter fun x => !isCountD x).map fun d => d)) y cs2 fun x cs1 => ∃ b, x = D.bl b ∧ b = isPartD q ∧ cs1 = cs := by
      intro xs e1 e2
      rw [List.map_id']
      refine er_lst (ea_nil ⟨by show 0 ≤ sizeLine; decide, ?_⟩)
      have ok := oq.ok
      have sh := oq.sh
      rw [e1] at ok sh
      refine o2_eqD (okL_filter ok) rfl (shaped_filter sh) (shaped_flatL (l := []) rfl) (lv_bl ⟨?_, rfl⟩)
      show PyData.eqvAll (pdL (xs.filter fun x => !isCountD x)) [] = _
      rw [eqvAll_nil, not_all, e2]
    walk_at "ev"
    have hl := oq.items
    cases tq with
    | lst xs =>
      refine er_lcP (fun x => !isCountD x) (fun d => d) (tgt_name (by decide)) ?_
      refine ei_or1 (ei_list ?_)
      walk_at "ev"
      refine ⟨xs, rfl, by have : xs.length ≤ 60 := hl; omega, fun i x acc p hi => ?_, key xs rfl rfl⟩
      obtain ⟨mm, hm⟩ := oq.tys x (List.mem_of_getElem? hi)
      walk_at "ev"
      refine ⟨x, mm, rfl, hm, lv_bl ⟨fun e => ⟨e, ?_⟩, fun e => ⟨e, rfl⟩⟩⟩
      walk_at "ev"
      exact ⟨rfl, rfl⟩
    | tup xs =>
      refine er_lcP (fun x => !isCountD x) (fun d => d) (tgt_name (by decide)) ?_
      refine ei_or2 (ei_tup ?_)
      walk_at "ev"
      refine ⟨xs, rfl, by have : xs.length ≤ 60 := hl; omega, fun i x acc p hi => ?_, key xs rfl rfl⟩
      obtain ⟨mm, hm⟩ := oq.tys x (List.mem_of_getElem? hi)
      walk_at "ev"
      refine ⟨x, mm, rfl, hm, lv_bl ⟨fun e => ⟨e, ?_⟩, fun e => ⟨e, rfl⟩⟩⟩
      walk_at "ev"
      exact ⟨rfl, rfl⟩
    | non => exact absurd gs Bool.false_ne_true
    | bl b => exact absurd gs Bool.false_ne_true
    | int i => exact absurd gs Bool.false_ne_true
    | str z => exact absurd gs Bool.false_ne_true
  · walk_at "ev"
    exact fin (if_neg (by rw [e]; exact fun z => nomatch z)).symm
  · walk_at "ev"
    exact fin (if_pos e).symm
def c_heard (K : PySem.W.Frag) : Tr := fun ds cs R _ => ∃ (h m q : D), ds = [h, m, q] ∧ OddX K h ∧ OddX K m ∧ OddX K q ∧ R (dueW h m q) cs
theorem sc__law_heard : FnScope ["_law_how", "_law_most", "_law_part", "_law_found", "e"] ["_law_how", "_law_most", "_law_part"] (defScope s__law_heard) := ⟨rfl, rfl, rfl, by decide +kernel, rfl, by decide +kernel, by decide +kernel⟩
set_option maxHeartbeats 4000000 in
theorem ok__law_heard (T : Txt K mg) : FnOk P w K mg base CX0 5 T.a__law_heard T.d__law_heard ["_law_how", "_law_most", "_law_part"] (spA K (c_heard K)) := by
  have G_Way___init__ := ok_Way___init__ (P := P) (w := w) (base := base) T
  have G__law_due := ok__law_due (P := P) (w := w) (base := base) T
  refine T.F__law_heard.ok sc__law_heard (spA_len (F := (c_heard K)) (by rintro ds cs R X ⟨_, _, _, rfl, _⟩; rfl)) (fun cdv A outer s H vs Q E hr h => ?_)
  have hu := hu_of hr
  refine ⟨_, (pss_cons (ps_set (i := 3) sc__law_heard.nd rfl (by first | exact .inl rfl | exact .inr rfl) pe_non)
    (pss_cons (ps_try_as (i := 4) (Wout := fun _ _ _ _ => False) rfl rfl sc__law_heard.nd rfl rfl ⟨rfl, by decide, Or.inl T.g_InvalidWay⟩ takes0 (fun W pn xe tk _ => pss_one (ps_expr (pe_makeW T.mk_Way G_Way___init__ (hr.mono (by decide)) (by rfl) T.g_Way T.b3_Way___init__ T.d3_Way___init__ (fun σ => passAt tk σ) (pa_cons (pv 0) (pa_cons (pv 1) (pa_cons (pv 2) pa_nil)))))) (fun a oe cls d pn hz hf => pss_pre (P := cls = .ref T.C_InvalidWay) (fun hp => (pss_one (ps_set (i := 3) sc__law_heard.nd rfl (by first | exact .inl rfl | exact .inr rfl) (pe_ifExp (PW.pt (pw_and (pt_val (pe_callB (call_isF2 T.e_InvalidWay hz hp hf) (by rfl) T.n_isinstance (by decide +kernel) (pa_cons (pv 4) (pa_cons (pe_glob (v := .ref T.C_StickError) rfl T.g_StickError rfl) pa_nil)))) (pw_and1 (pt_not (pt_val (pe_callB (call_isF2 T.e_InvalidWay hz hp hf) (by rfl) T.n_isinstance (by decide +kernel) (pa_cons (pv 4) (pa_cons (pe_glob (v := .ref T.C_InvalidRule) rfl T.g_InvalidRule rfl) pa_nil)))))))) (pe_xf T.xf_InvalidWay T.nf_InvalidWay hz hf (pv 4)) pe_str))))))
    (pss_one (ps_ret (pv 3))))), ?_⟩
  refine enter h (fun ds cs R X G f xq => ?_)
  clear h xq
  try dsimp only [cxOf, Cx.nox, Cx.wish]
  obtain ⟨h, m, q, rfl, oh, om, oq, kk⟩ := f
  show Xs K _ _ [some h, some m, some q, none, none] cs
  refine xs_seqAsg (d := .non) (C := cs) (er_c ⟨rfl, rfl⟩) ?_
  refine xs_cut (M := fun Δ cs' => ∃ n, Δ = [some h, some m, some q, some (dueW h m q), none] ∧ cs'.take n = cs) (xs_tryMake ?_) ?_
  rotate_left
  · rintro Δ cs' ⟨n, rfl, hcs⟩
    walk_at "ev"
    refine ⟨n, ?_⟩
    rw [hcs]
    exact kk
  walk_at "ev"
  intro p
  have neg : ∀ {b : Bool}, b = true → ¬ b = false := fun e z => by rw [e] at z; exact nomatch z
  refine ⟨p, cs, h, m, q, rfl, rfl, oh.toOddW, om.toOddW, oq.toOddW, fun e1 => ?_, fun e1 e2 => ?_, fun e1 e2 e3 => ?_, fun how mo pt eh hh em hm hp => ?_⟩
  · have ew : dueW h m q = .str "how" := if_pos e1
    refine ⟨T.te_InvalidWay, fun p2 => ⟨fun z => absurd z (List.cons_ne_nil _ _), fun _ dx => ?_⟩⟩
    refine xs_pre rfl ?_
    show Xs K _ _ [some h, some m, some q, some .non, some (.exc p2 dx ["word"] [.str "how"])] cs
    walk_at "ev"
    refine oa_isF T.kx_InvalidWay_StickError ?_
    refine lv_bool (fun _ => ?_) (fun h => absurd h.symm Bool.false_ne_true)
    walk_at "ev"
    refine oa_isF T.kx_InvalidWay_InvalidRule ?_
    refine lv_bl ⟨fun _ => ?_, fun h => absurd h.symm Bool.false_ne_true⟩
    walk_at "ev"
    refine er_xf ?_
    walk_at "ev"
    refine ⟨_, _, _, rfl, rfl, cs.length, ?_, List.take_length⟩
    rw [ew]
    rfl
  · have ew : dueW h m q = .str "most" := by unfold dueW; rw [if_neg (neg e1), if_pos e2]
    refine ⟨T.te_InvalidWay, fun p2 => ⟨fun z => absurd z (List.cons_ne_nil _ _), fun _ dx => ?_⟩⟩
    refine xs_pre rfl ?_
    show Xs K _ _ [some h, some m, some q, some .non, some (.exc p2 dx ["word"] [.str "most"])] cs
    walk_at "ev"
    refine oa_isF T.kx_InvalidWay_StickError ?_
    refine lv_bool (fun _ => ?_) (fun h => absurd h.symm Bool.false_ne_true)
    walk_at "ev"
    refine oa_isF T.kx_InvalidWay_InvalidRule ?_
    refine lv_bl ⟨fun _ => ?_, fun h => absurd h.symm Bool.false_ne_true⟩
    walk_at "ev"
    refine er_xf ?_
    walk_at "ev"
    refine ⟨_, _, _, rfl, rfl, cs.length, ?_, List.take_length⟩
    rw [ew]
    rfl
  · have ew : dueW h m q = .str "part" := by unfold dueW; rw [if_neg (neg e1), if_neg (neg e2), if_pos e3]
    refine ⟨T.te_InvalidWay, fun p2 => ⟨fun z => absurd z (List.cons_ne_nil _ _), fun _ dx => ?_⟩⟩
    refine xs_pre rfl ?_
    show Xs K _ _ [some h, some m, some q, some .non, some (.exc p2 dx ["word"] [.str "part"])] cs
    walk_at "ev"
    refine oa_isF T.kx_InvalidWay_StickError ?_
    refine lv_bool (fun _ => ?_) (fun h => absurd h.symm Bool.false_ne_true)
    walk_at "ev"
    refine oa_isF T.kx_InvalidWay_InvalidRule ?_
    refine lv_bl ⟨fun _ => ?_, fun h => absurd h.symm Bool.false_ne_true⟩
    walk_at "ev"
    refine er_xf ?_
    walk_at "ev"
    refine ⟨_, _, _, rfl, rfl, cs.length, ?_, List.take_length⟩
    rw [ew]
    rfl
  · have g1 : isHowD h = true := by rw [eh]; exact decide_eq_true hh
    have g2 : goodM m = true := by
      rw [em]
      cases mo with
      | none => rfl
      | some i => exact decide_eq_true (show 0 ≤ i from hm)
    have g3 : goodP q = true := by
      rcases hp with ⟨e, _⟩ | ⟨ns, e, h0, _, _⟩
      · rw [e]; rfl
      · have al : (ns.map D.int).all isCountD = true := List.all_eq_true.mpr fun x hx => by
          obtain ⟨z, hz, rfl⟩ := List.mem_map.mp hx
          exact decide_eq_true (h0 z hz)
        rcases e with e | e <;> rw [e] <;> exact al
    have ew : dueW h m q = .non := by unfold dueW; rw [if_neg (neg g1), if_neg (neg g2), if_neg (neg g3)]
    refine ⟨rfl, cs.length, ?_, List.take_left' rfl⟩
    rw [ew]
    rfl
def odds1 : List D := [.str "Add", .str "add ", .str "adds", .non, .int 0]
def odds2 : List D := [.int (-1), .bl true, .str "2", .lst [.int 1]]
def odds3 : List D := [.lst [.int 0, .int (-1)], .lst [.non], .str "01", .lst [.bl true], .int 3]
def base1 : List D := [.str "add", .str "lose", .str "mixed"]
def base2 : List D := [.non, .int 0, .int 3]
section
variable {K : PySem.W.Frag}
theorem ox_str (z : Str) : OddX K (.str z) := ⟨⟨⟨_, .str z⟩, by show 0 ≤ 60; decide, fun x hx => by cases hx⟩, rfl, rfl⟩
theorem ox_int (z : Int) : OddX K (.int z) := ⟨⟨⟨_, .int z⟩, by show 0 ≤ 60; decide, fun x hx => by cases hx⟩, rfl, rfl⟩
theorem ox_bl (z : Bool) : OddX K (.bl z) := ⟨⟨⟨_, .bl z⟩, by show 0 ≤ 60; decide, fun x hx => by cases hx⟩, rfl, rfl⟩
theorem ox_non : OddX K .non := ⟨⟨⟨_, .non⟩, by show 0 ≤ 60; decide, fun x hx => by cases hx⟩, rfl, rfl⟩
/-- what stands in a list -/
def TyOf (K : PySem.W.Frag) (l : List D) : Prop := ∀ x ∈ l, ∃ m, TyD K x m
theorem to_nil : TyOf K [] := fun x h => by cases h
theorem to_cons {d : D} {l : List D} (h : ∃ m, TyD K d m) (t : TyOf K l) : TyOf K (d :: l) := fun x hx => by
  rcases List.mem_cons.mp hx with rfl | hx
  · exact h
  · exact t x hx
theorem ox_lst {l : List D} (h1 : l.length ≤ 60) (h2 : TyOf K l) (h3 : okL l = true) (h4 : SeqAt.shaped (pdD (.lst l)) = true) : OddX K (.lst l) := ⟨⟨⟨_, .lst l⟩, h1, h2⟩, h3, h4⟩
theorem ox_tup {l : List D} (h1 : l.length ≤ 60) (h2 : TyOf K l) (h3 : okL l = true) (h4 : SeqAt.shaped (pdD (.lst l)) = true) : OddX K (.tup l) := ⟨⟨⟨_, .tup l⟩, h1, h2⟩, h3, h4⟩
theorem ox_value : ∀ d ∈ oddL ++ [deepD 7], OddX K d := by
  intro d hd
  have e7 : deepD 7 = .lst [deepD 6, .int 1] := rfl
  have e6 : deepD 6 = .tup [deepD 5] := rfl
  rw [e7] at hd
  simp only [oddL, List.cons_append, List.nil_append, List.mem_cons, List.not_mem_nil, or_false] at hd
  rcases hd with h | h | h | h | h | h | h | h | h | h | h | h | h | h | h | h | h | h
  · rw [h]; exact ox_int _
  · rw [h]; exact ox_int _
  · rw [h]; exact ox_int _
  · rw [h]; exact ox_str _
  · rw [h]; exact ox_str _
  · rw [h]; exact ox_non
  · rw [h]; exact ox_bl _
  · rw [h]; exact ox_bl _
  · rw [h]; exact ox_lst (by decide) to_nil rfl (by decide +kernel)
  · rw [h]; exact ox_lst (by show 2 ≤ 60; decide) (to_cons ⟨_, .int _⟩ (to_cons ⟨_, .str _⟩ to_nil)) rfl (by decide +kernel)
  · rw [h]; exact ox_tup (by show 2 ≤ 60; decide) (to_cons ⟨_, .str _⟩ (to_cons ⟨_, .non⟩ to_nil)) rfl (by decide +kernel)
  · rw [h]; exact ox_tup (by decide) to_nil rfl (by decide +kernel)
  · rw [h]; exact ox_str _
  · rw [h]; exact ox_int _
  · rw [h]; exact ox_str _
  · rw [h]; exact ox_lst (by show 1 ≤ 60; decide) (to_cons ⟨_, .str _⟩ to_nil) rfl (by decide +kernel)
  · rw [h]; exact ox_str _
  · rw [h]; exact ox_lst (by show 2 ≤ 60; decide) (to_cons ⟨_, by rw [e6]; exact .tup _⟩ (to_cons ⟨_, .int _⟩ to_nil)) rfl (by decide +kernel)
theorem ox_odds {i : Nat} {l : List D} (hl : [odds1, odds2, odds3][i]? = some l) : ∀ d ∈ l, OddX K d := by
  match i, hl with
  | 0, hl =>
    cases hl
    intro d hd
    simp only [odds1, List.mem_cons, List.not_mem_nil, or_false] at hd
    rcases hd with h | h | h | h | h
    · rw [h]; exact ox_str _
    · rw [h]; exact ox_str _
    · rw [h]; exact ox_str _
    · rw [h]; exact ox_non
    · rw [h]; exact ox_int _
  | 1, hl =>
    cases hl
    intro d hd
    simp only [odds2, List.mem_cons, List.not_mem_nil, or_false] at hd
    rcases hd with h | h | h | h
    · rw [h]; exact ox_int _
    · rw [h]; exact ox_bl _
    · rw [h]; exact ox_str _
    · rw [h]; exact ox_lst (by show 1 ≤ 60; decide) (to_cons ⟨_, .int _⟩ to_nil) rfl (by decide +kernel)
  | 2, hl =>
    cases hl
    intro d hd
    simp only [odds3, List.mem_cons, List.not_mem_nil, or_false] at hd
    rcases hd with h | h | h | h | h
    · rw [h]; exact ox_lst (by show 2 ≤ 60; decide) (to_cons ⟨_, .int _⟩ (to_cons ⟨_, .int _⟩ to_nil)) rfl (by decide +kernel)
    · rw [h]; exact ox_lst (by show 1 ≤ 60; decide) (to_cons ⟨_, .non⟩ to_nil) rfl (by decide +kernel)
    · rw [h]; exact ox_str _
    · rw [h]; exact ox_lst (by show 1 ≤ 60; decide) (to_cons ⟨_, .bl _⟩ to_nil) rfl (by decide +kernel)
    · rw [h]; exact ox_int _
theorem due_ok (h m q : D) : okD (dueW h m q) = true ∧ SeqAt.shaped (pdD (dueW h m q)) = true := by
  unfold dueW
  split
  · exact ⟨rfl, by decide +kernel⟩
  · split
    · exact ⟨rfl, by decide +kernel⟩
    · split
      · exact ⟨rfl, by decide +kernel⟩
      · exact ⟨rfl, by decide +kernel⟩
end
theorem sc_law : FnScope ["_law_script", "_law_k", "_law_box_here", "_law_turn", "_law_some", "_law_again", "_law_odds", "_law_at", "_law_form"] ["_law_script"] (defScope s_law) := ⟨rfl, rfl, rfl, by decide +kernel, rfl, by decide +kernel, by decide +kernel⟩
set_option maxHeartbeats 4000000 in
theorem ok_law (T : Txt K mg) : FnOk P w K mg base CX0 6 T.a_law T.d_law ["_law_script"] (spA K c_law) := by
  have G__law_box := ok__law_box (P := P) (w := w) (base := base) T
  have G__law_heard := ok__law_heard (P := P) (w := w) (base := base) T
  have G__law_pick := ok__law_pick (P := P) (w := w) (base := base) T
  have G__law_take := ok__law_take (P := P) (w := w) (base := base) T
  have G__law_due := ok__law_due (P := P) (w := w) (base := base) T
  have G__law_value := ok__law_value (P := P) (w := w) (base := base) T
  refine T.F_law.ok sc_law (spA_len (F := c_law) (by rintro ds cs R X ⟨_, rfl, _⟩; rfl)) (fun cdv A outer s H vs Q E hr h => ?_)
  have hu := hu_of hr
  refine ⟨_, (pss_cons (ps_for PassesOwn.never rfl (pi_range1 (by rfl) T.n_range (pa_cons (pe_callB (kcall_max2 rfl) (by rfl) T.n_max (by decide +kernel) (pa_cons pe_int (pa_cons (pe_callB (kcall_min2 rfl) (by rfl) T.n_min (by decide +kernel) (pa_cons pe_int (pa_cons (pe_callB (kcall_len (K := K) rfl) (by rfl) T.n_len PySem.boot_len (pa_cons (pv 0) pa_nil)) pa_nil))) pa_nil))) pa_nil)) (pg_name (i := 1) sc_law.nd rfl (by first | exact .inl rfl | exact .inr rfl))
    (pss_cons (ps_set (i := 2) sc_law.nd rfl (by first | exact .inl rfl | exact .inr rfl) (pe_call G__law_box (hr.mono (by decide)) rfl T.g__law_box T.F__law_box.kp T.b__law_box .nil pass0 (pa_cons (pv 0) (pa_cons (pv 1) (pa_cons pe_int pa_nil)))))
    (pss_one (ps_for PassesOwn.never rfl (pi_range1 (by rfl) T.n_range (pa_cons pe_int pa_nil)) (pg_name (i := 3) sc_law.nd rfl (by first | exact .inl rfl | exact .inr rfl))
    (pss_cons (ps_set (i := 4) sc_law.nd rfl (by first | exact .inl rfl | exact .inr rfl) (pe_lst (pa_cons (pe_call G__law_pick (hr.mono (by decide)) rfl T.g__law_pick T.F__law_pick.kp T.b__law_pick .nil pass0 (pa_cons (pv 2) (pa_cons (pe_lst (pa_cons pe_str (pa_cons pe_str (pa_cons pe_str pa_nil)))) pa_nil))) (pa_cons (pe_call G__law_pick (hr.mono (by decide)) rfl T.g__law_pick T.F__law_pick.kp T.b__law_pick .nil pass0 (pa_cons (pv 2) (pa_cons (pe_lst (pa_cons pe_non (pa_cons pe_int (pa_cons pe_int pa_nil)))) pa_nil))) (pa_cons (pe_lst (pa_cons pe_int (pa_cons pe_int (pa_cons pe_int pa_nil)))) pa_nil)))))
    (pss_cons (ps_for PassesOwn.never rfl (pi_range1 (by rfl) T.n_range (pa_cons (pe_call G__law_take (hr.mono (by decide)) rfl T.g__law_take T.F__law_take.kp T.b__law_take .nil pass0 (pa_cons (pv 2) (pa_cons pe_int pa_nil))) pa_nil)) (pg_name (i := 5) sc_law.nd rfl (by first | exact .inl rfl | exact .inr rfl))
    (pss_cons (ps_par (i := 7) (j := 8) rfl sc_law.nd rfl rfl (by decide) rfl rfl (pa_cons (pe_call G__law_take (hr.mono (by decide)) rfl T.g__law_take T.F__law_take.kp T.b__law_take .nil pass0 (pa_cons (pv 2) (pa_cons pe_int pa_nil))) (pa_cons (pe_call G__law_take (hr.mono (by decide)) rfl T.g__law_take T.F__law_take.kp T.b__law_take .nil pass0 (pa_cons (pv 2) (pa_cons pe_int pa_nil))) pa_nil)) rfl)
    (pss_cons (ps_set (i := 6) sc_law.nd rfl (by first | exact .inl rfl | exact .inr rfl) (pe_lst (pa_cons (pe_lst (pa_cons pe_str (pa_cons pe_str (pa_cons pe_str (pa_cons pe_non (pa_cons pe_int pa_nil)))))) (pa_cons (pe_lst (pa_cons (pe_un un_neg pe_int) (pa_cons pe_bl (pa_cons pe_str (pa_cons (pe_lst (pa_cons pe_int pa_nil)) pa_nil))))) (pa_cons (pe_lst (pa_cons (pe_lst (pa_cons pe_int (pa_cons (pe_un un_neg pe_int) pa_nil))) (pa_cons (pe_lst (pa_cons pe_non pa_nil)) (pa_cons pe_str (pa_cons (pe_lst (pa_cons pe_bl pa_nil)) (pa_cons pe_int pa_nil)))))) pa_nil)))))
    (pss_one (ps_asg (pe_ifExp (pt_cmpR op_eq (pv 8) pe_int (nomark _)) (pe_call G__law_value (hr.mono (by decide)) rfl T.g__law_value T.F__law_value.kp T.b__law_value .nil pass0 (pa_cons (pv 2) pa_nil)) (pe_call G__law_pick (hr.mono (by decide)) rfl T.g__law_pick T.F__law_pick.kp T.b__law_pick .nil pass0 (pa_cons (pv 2) (pa_cons (pe_ix (kix_list (K := K) rfl) (pv 6) (pv 7) (fun _ _ => rfl)) pa_nil)))) (pg_sub (pv 4) (pv 7) set_list))))))
    (pss_one (ps_if (pt_cmpR (kop_neD (K := K) rfl hr.units) (pe_call G__law_heard (hr.mono (by decide)) rfl T.g__law_heard T.F__law_heard.kp T.b__law_heard .nil pass0 (pa_cons (pe_ix (kix_list (K := K) rfl) (pv 4) pe_int (fun _ _ => rfl)) (pa_cons (pe_ix (kix_list (K := K) rfl) (pv 4) pe_int (fun _ _ => rfl)) (pa_cons (pe_ix (kix_list (K := K) rfl) (pv 4) pe_int (fun _ _ => rfl)) pa_nil)))) (pe_call G__law_due (hr.mono (by decide)) rfl T.g__law_due T.F__law_due.kp T.b__law_due .nil pass0 (pa_cons (pe_ix (kix_list (K := K) rfl) (pv 4) pe_int (fun _ _ => rfl)) (pa_cons (pe_ix (kix_list (K := K) rfl) (pv 4) pe_int (fun _ _ => rfl)) (pa_cons (pe_ix (kix_list (K := K) rfl) (pv 4) pe_int (fun _ _ => rfl)) pa_nil)))) (nomark _)) (pss_one (ps_ret pe_bl)) pss_nil))))))))
    (pss_one (ps_ret (pe_and (pe_cmp (pc_isN (pe_call G__law_heard (hr.mono (by decide)) rfl T.g__law_heard T.F__law_heard.kp T.b__law_heard .nil pass0 (pa_cons pe_str (pa_cons pe_int (pa_cons (pe_tup pa_nil) pa_nil)))))) (pe_one (pe_cmpR op_eq (pe_call G__law_heard (hr.mono (by decide)) rfl T.g__law_heard T.F__law_heard.kp T.b__law_heard .nil pass0 (pa_cons pe_str (pa_cons (pe_un un_neg pe_int) (pa_cons pe_int pa_nil)))) pe_str (nomark _))))))), ?_⟩
  refine enter h (fun ds cs R X G f xq => ?_)
  clear h xq
  try dsimp only [cxOf, Cx.nox, Cx.wish]
  obtain ⟨ns, rfl, hl, rfl, k⟩ := f
  show Xs K _ _ [some (.ro (ns.map D.int)), none, none, none, none, none, none, none, none] []
  refine xs_seq (xs_for (ei_range ?_))
  walk_at "ev"
  rw [List.length_map]
  have hN2 := law_turns (ns := ns) (w := 3) (by decide) rfl
  generalize (if (if (ns.length : Int) < 3 then (ns.length : Int) else 3) > 1 then (if (ns.length : Int) < 3 then (ns.length : Int) else 3) else 1) = NN at hN2 ⊢
  refine ⟨_, rfl, by omega, by omega, fun _ Δ _ => ∃ x1 x2 x3 x4 x5 x6 x7 x8 : Option D, Δ = [some (.ro (ns.map D.int)), x1, x2, x3, x4, x5, x6, x7, x8], ⟨_, _, _, _, _, _, _, _, rfl⟩, ?_, ?_⟩
  rotate_left

  · rintro Δ cs ⟨x1, x2, x3, x4, x5, x6, x7, x8, rfl⟩
    walk_at "ev"
    refine ⟨by show 0 ≤ sizeLine; decide, ?_⟩
    walk_at "ev"
    refine ⟨_, _, _, rfl, ox_str _, ox_int _, ox_tup (by decide) to_nil rfl (by decide +kernel), ?_⟩
    have e1 : dueW (.str "add") (.int 0) (.tup []) = .non := by
      unfold dueW
      rw [if_neg (by decide +kernel), if_neg (by decide +kernel), if_neg (by decide +kernel)]
    rw [e1]
    refine lv_bool (fun _ => ?_) (fun h => absurd h.symm Bool.false_ne_true)
    walk_at "ev"
    refine ⟨_, _, _, rfl, ox_str _, ox_int _, ox_int _, ?_⟩
    have e2 : dueW (.str "") (.int (-1)) (.int 0) = .str "how" := if_pos (by decide +kernel)
    rw [e2]
    walk_at "ev"
    exact ⟨0, k _⟩
  rintro i d Δ cs hd ⟨x1, x2, x3, x4, x5, x6, x7, x8, rfl⟩
  obtain ⟨hi, rfl⟩ := rangeD_get hd
  clear hd
  refine gg_name (xs_drops 0 ?_)
  show Xs K _ _ [some (.ro (ns.map D.int)), some (.int i), x2, x3, x4, x5, x6, x7, x8] []
  walk_at "ev"
  refine ⟨ns, (i : Int), 3, rfl, by omega, by omega, by decide, by decide, rfl, fun p a b c ha => ?_⟩
  show Xs K _ _ [some (.ro (ns.map D.int)), some (.int i), some (.raw (.ref p)), x3, x4, x5, x6, x7, x8] [boxC p a b c]
  refine xs_for (ei_range ?_)
  walk_at "ev"
  refine ⟨14, rfl, by decide, by decide, fun _ Δ cs => ∃ (x3 x4 x5 x6 x7 x8 : Option D) (a b c : Int) (cs1 : Cells), 0 ≤ a ∧ Δ = [some (.ro (ns.map D.int)), some (.int i), some (.raw (.ref p)), x3, x4, x5, x6, x7, x8] ∧ cs = boxC p a b c :: cs1, ⟨_, _, _, _, _, _, a, b, c, [], ha, rfl, rfl⟩, ?_, ?_⟩
  rotate_left
  · rintro Δ cs ⟨x3, x4, x5, x6, x7, x8, a, b, c, cs1, ha, rfl, rfl⟩
    exact ⟨_, _, _, _, _, _, _, _, rfl⟩
  clear ha x3 x4 x5 x6 x7 x8
  rintro j d Δ cs hd ⟨x3, x4, x5, x6, x7, x8, a, b, c, cs1, ha, rfl, rfl⟩
  obtain ⟨hj, rfl⟩ := rangeD_get hd
  clear hd
  refine gg_name (xs_drops 1 ?_)
  show Xs K _ _ [some (.ro (ns.map D.int)), some (.int i), some (.raw (.ref p)), some (.int j), x4, x5, x6, x7, x8] [boxC p a b c]
  refine xs_cut (M := fun Δ cs => ∃ (q : Addr) (h m r : D) (a b c : Int), 0 ≤ a ∧ OddX K h ∧ OddX K m ∧ OddX K r ∧ Δ = [some (.ro (ns.map D.int)), some (.int i), some (.raw (.ref p)), some (.int j), some (.raw (.ref q)), x5, x6, x7, x8] ∧ cs = [boxC p a b c, (q, .lst [h, m, r])]) ?_ ?_
  · refine xs_asg (er_lstC ?_)
    walk_at "ev"
    refine er_lst ?_
    walk_at "ev"
    refine ⟨by show 3 ≤ sizeLine; decide, ?_⟩
    walk_at "ev"
    refine ⟨p, a, b, c, [], base1, rfl, rfl, ha, by decide, by decide, fun q1 h a1 b1 c1 hh ha1 => ?_⟩
    walk_at "ev"
    refine er_lst ?_
    walk_at "ev"
    refine ⟨by show 3 ≤ sizeLine; decide, ?_⟩
    walk_at "ev"
    refine ⟨p, a1, b1, c1, [], base2, rfl, rfl, ha1, by decide, by decide, fun q2 m a2 b2 c2 hm ha2 => ?_⟩
    walk_at "ev"
    refine er_lst ?_
    walk_at "ev"
    refine ⟨by show 3 ≤ sizeLine; decide, ?_⟩
    walk_at "ev"
    refine ⟨by show 3 ≤ sizeLine; decide, fun q => ⟨q, h, m, _, a2, b2, c2, ha2, ?_, ?_, ?_, rfl, rfl⟩⟩
    · have := List.mem_of_getElem? hh
      simp only [base1, List.mem_cons, List.not_mem_nil, or_false] at this
      rcases this with h | h | h <;> rw [h] <;> exact ox_str _
    · have := List.mem_of_getElem? hm
      simp only [base2, List.mem_cons, List.not_mem_nil, or_false] at this
      rcases this with h | h | h
      · rw [h]; exact ox_non
      · rw [h]; exact ox_int _
      · rw [h]; exact ox_int _
    · exact ox_lst (by show 3 ≤ 60; decide) (to_cons ⟨_, .int _⟩ (to_cons ⟨_, .int _⟩ (to_cons ⟨_, .int _⟩ to_nil))) rfl (by decide +kernel)
  clear ha
  rintro Δ cs ⟨q, h, m, r, a1, b1, c1, ha1, oh, om, or', rfl, rfl⟩
  try dsimp only
  refine xs_cut (M := fun Δ cs => ∃ (h m r : D) (x5 x6 x7 x8 : Option D) (a b c : Int), 0 ≤ a ∧ OddX K h ∧ OddX K m ∧ OddX K r ∧ Δ = [some (.ro (ns.map D.int)), some (.int i), some (.raw (.ref p)), some (.int j), some (.raw (.ref q)), x5, x6, x7, x8] ∧ cs = [boxC p a b c, (q, .lst [h, m, r])]) ?_ ?_
  · refine xs_for (ei_range ?_)
    walk_at "ev"
    refine ⟨p, a1, b1, c1, 3, [(q, .lst [h, m, r])], rfl, rfl, ha1, by decide, by decide, fun t a2 b2 c2 ht0 ht1 ha2 => ?_⟩
    walk_at "ev"
    refine ⟨t, rfl, by omega, by omega, fun _ Δ cs => ∃ (h m r : D) (x5 x6 x7 x8 : Option D) (a b c : Int), 0 ≤ a ∧ OddX K h ∧ OddX K m ∧ OddX K r ∧ Δ = [some (.ro (ns.map D.int)), some (.int i), some (.raw (.ref p)), some (.int j), some (.raw (.ref q)), x5, x6, x7, x8] ∧ cs = [boxC p a b c, (q, .lst [h, m, r])], ⟨h, m, r, _, _, _, _, a2, b2, c2, ha2, oh, om, or', rfl, rfl⟩, ?_, ?_⟩
    · clear oh om or' ha1 ha2 ht0 ht1 h m r
      rintro g d Δ cs hd ⟨h, m, r, x5, x6, x7, x8, a, b, c, ha, oh, om, or', rfl, rfl⟩
      obtain ⟨hg, rfl⟩ := rangeD_get hd
      clear hd
      refine gg_name ?_
      show Xs K _ _ [some (.ro (ns.map D.int)), some (.int i), some (.raw (.ref p)), some (.int j), some (.raw (.ref q)), some (.int g), x6, x7, x8] [boxC p a b c, (q, .lst [h, m, r])]
      refine xs_seq (xs_par ?_)
      walk_at "ev"
      refine ⟨p, a, b, c, 3, _, rfl, rfl, ha, by decide, by decide, fun at' a3 b3 c3 h0 h1 ha3 => ?_⟩
      walk_at "ev"
      refine ⟨p, a3, b3, c3, 4, _, rfl, rfl, ha3, by decide, by decide, fun fo a4 b4 c4 h2 h3 ha4 => ?_⟩
      walk_at "ev"
      refine ⟨_, _, rfl, ?_⟩
      obtain ⟨t, rfl⟩ : ∃ t : Nat, at' = (t : Int) := ⟨at'.toNat, by omega⟩
      have ht : t < 3 := by omega
      show Xs K _ _ [some (.ro (ns.map D.int)), some (.int i), some (.raw (.ref p)), some (.int j), some (.raw (.ref q)), some (.int g), x6, some (.int t), some (.int fo)] [boxC p a4 b4 c4, (q, .lst [h, m, r])]
      refine xs_seqAsg (d := .lst [.lst odds1, .lst odds2, .lst odds3]) (C := [boxC p a4 b4 c4, (q, .lst [h, m, r])]) ?_ ?_
      · refine er_lst ?_
        repeat (first
          | walk_at "e"
          | dsimp only
          | (with_reducible refine er_lst ?_)
          | (refine ⟨by decide +kernel, ?_⟩))
        exact ⟨rfl, rfl⟩
      show Xs K _ _ [some (.ro (ns.map D.int)), some (.int i), some (.raw (.ref p)), some (.int j), some (.raw (.ref q)), some (.int g), some (.lst [.lst odds1, .lst odds2, .lst odds3]), some (.int t), some (.int fo)] [boxC p a4 b4 c4, (q, .lst [h, m, r])]
      refine xs_asgG (er_mono (R := fun d cs' => ∃ a b c, OddX K d ∧ 0 ≤ a ∧ cs' = [boxC p a b c, (q, .lst [h, m, r])]) ?_ ?_)
      · walk_at "ev"
        refine lv_bl ⟨fun _ => ?_, fun _ => ?_⟩
        · walk_at "ev"
          exact ⟨p, a4, b4, c4, _, rfl, rfl, ha4, fun d a5 b5 c5 hd ha5 => ⟨a5, b5, c5, ox_value d hd, ha5, rfl⟩⟩
        · obtain ⟨l, hl, hl0, hl1⟩ : ∃ l, [odds1, odds2, odds3][t]? = some l ∧ l ≠ [] ∧ l.length ≤ 1000 := by
            match t, ht with
            | 0, _ => exact ⟨_, rfl, List.cons_ne_nil _ _, by decide⟩
            | 1, _ => exact ⟨_, rfl, List.cons_ne_nil _ _, by decide⟩
            | 2, _ => exact ⟨_, rfl, List.cons_ne_nil _ _, by decide⟩
          have hq : [D.lst odds1, D.lst odds2, D.lst odds3][t]? = some (.lst l) := by
            match t, ht, hl with
            | 0, _, hl => cases hl; rfl
            | 1, _, hl => cases hl; rfl
            | 2, _, hl => cases hl; rfl
          walk_at "ev"
          refine o2_ixL (atI_of (j := t) rfl hq) ?_
          walk_at "ev"
          exact ⟨p, a4, b4, c4, _, l, rfl, rfl, ha4, hl0, hl1, fun q1 d a5 b5 c5 hd ha5 => ⟨a5, b5, c5, ox_odds hl d (List.mem_of_getElem? hd), ha5, rfl⟩⟩
      · rintro d cs' ⟨a5, b5, c5, od, ha5, rfl⟩
        refine gg_sub ?_
        walk_at "ev"
        refine ⟨q, 1, [h, m, r], (t : Int), t, rfl, rfl, rfl, ?_, ?_⟩
        · match t, ht with
          | 0, _ => rfl
          | 1, _ => rfl
          | 2, _ => rfl
        · match t, ht with
          | 0, _ => exact ⟨d, m, r, _, _, _, _, a5, b5, c5, ha5, od, om, or', rfl, rfl⟩
          | 1, _ => exact ⟨h, d, r, _, _, _, _, a5, b5, c5, ha5, oh, od, or', rfl, rfl⟩
          | 2, _ => exact ⟨h, m, d, _, _, _, _, a5, b5, c5, ha5, oh, om, od, rfl, rfl⟩
    · rintro Δ cs ⟨h, m, r, x5, x6, x7, x8, a, b, c, ha, oh, om, or', rfl, rfl⟩
      exact ⟨h, m, r, _, _, _, _, a, b, c, ha, oh, om, or', rfl, rfl⟩
  rintro Δ cs ⟨h, m, r, y5, y6, y7, y8, a2, b2, c2, ha2, oh2, om2, or2, rfl, rfl⟩
  refine xs_endP (P := fun cs => cs = [boxC p a2 b2 c2, (q, .lst [h, m, r])]) ?_ ?_
  · have i0 : atI [h, m, r] 0 = some h := rfl
    have i1 : atI [h, m, r] 1 = some m := rfl
    have i2 : atI [h, m, r] 2 = some r := rfl
    have s1 : ([boxC p a2 b2 c2, (q, CO.lst [h, m, r])] : Cells)[1]? = some (q, CO.lst [h, m, r]) := rfl
    obtain ⟨k1, k2⟩ := due_ok h m r
    walk_at "ev"
    refine o2_ixC s1 i0 ?_
    walk_at "ev"
    refine o2_ixC s1 i1 ?_
    walk_at "ev"
    refine o2_ixC s1 i2 ?_
    walk_at "ev"
    refine ⟨_, _, _, rfl, oh2, om2, or2, ?_⟩
    walk_at "ev"
    refine o2_ixC s1 i0 ?_
    walk_at "ev"
    refine o2_ixC s1 i1 ?_
    walk_at "ev"
    refine o2_ixC s1 i2 ?_
    walk_at "ev"
    refine ⟨_, _, _, rfl, oh2, om2, or2, ?_⟩
    exact o2_neSelf k1 k2 (lv_bl ⟨rfl, rfl⟩)
  rintro cs rfl
  exact ⟨_, _, _, _, _, _, a2, b2, c2, _, ha2, rfl, rfl⟩
end
/-! ### the end -/
theorem all_mk {l : PySem.W.OpenLaw} {w : World} {K : PySem.W.Frag} {h : Heap} {mg : Str → Option Value} {fa : Addr} (X : K.In h) (G : h.Ns mainGlobals mg) (hfa : mg "law" = some (.ref fa))
    {ac_HOWS : Addr}
    {tk_HOWS_0 tk_HOWS_1 tk_HOWS_2 : Tok} {odc_HOWS : Option Addr} {nc_HOWS : Nat} {slc_HOWS : Array (Option Value)}
    {aC_InvalidWay : Addr}
    {aC_InvalidRule : Addr}
    {aC_StickError : Addr}
    {oN_InvalidWay : Addr} {oA_InvalidWay oB_InvalidWay : Str} {oC_InvalidWay oM_InvalidWay oE_InvalidWay : List Value} {oD_InvalidWay : List Str} {oF_InvalidWay : Bool} {oG_InvalidWay : Option Bool} {oH_InvalidWay : Option Addr} {oI_InvalidWay oJ_InvalidWay oK_InvalidWay oL_InvalidWay oP_InvalidWay : Option Value}
    
    {aC_Way : Addr}
    {af_InvalidWay___init__ : Addr} {od_InvalidWay___init__ an_InvalidWay___init__ : Option Addr} {sl_InvalidWay___init__ : Array (Option Value)} {oc_InvalidWay___init__ kV_InvalidWay___init__ dc_InvalidWay___init__ pm_InvalidWay___init__ cd_InvalidWay___init__ ct_InvalidWay___init__ : Value}
    {af_is_count : Addr} {od_is_count an_is_count : Option Addr} {sl_is_count : Array (Option Value)} {oc_is_count kV_is_count dc_is_count pm_is_count cd_is_count ct_is_count : Value}
    {af_is_sequence : Addr} {od_is_sequence an_is_sequence : Option Addr} {sl_is_sequence : Array (Option Value)} {oc_is_sequence kV_is_sequence dc_is_sequence pm_is_sequence cd_is_sequence ct_is_sequence : Value}
    {af_is_how : Addr} {od_is_how an_is_how : Option Addr} {sl_is_how : Array (Option Value)} {oc_is_how kV_is_how dc_is_how pm_is_how cd_is_how ct_is_how : Value}
    {af_is_part : Addr} {od_is_part an_is_part : Option Addr} {sl_is_part : Array (Option Value)} {oc_is_part kV_is_part dc_is_part pm_is_part cd_is_part ct_is_part : Value}
    {af_Way___init__ : Addr} {od_Way___init__ an_Way___init__ : Option Addr} {sl_Way___init__ : Array (Option Value)} {oc_Way___init__ kV_Way___init__ dc_Way___init__ pm_Way___init__ cd_Way___init__ ct_Way___init__ : Value}
    {aT_Way___init__ : Addr} {odT_Way___init__ : Option Addr} {nT_Way___init__ : Nat} {slT_Way___init__ : Array (Option Value)} {ocT_Way___init__ : Value}
    {tkT_Way___init___0 : Tok}
    {af__law_box : Addr} {od__law_box an__law_box : Option Addr} {sl__law_box : Array (Option Value)} {oc__law_box kV__law_box dc__law_box pm__law_box cd__law_box ct__law_box : Value}
    {af__law_take : Addr} {od__law_take an__law_take : Option Addr} {sl__law_take : Array (Option Value)} {oc__law_take kV__law_take dc__law_take pm__law_take cd__law_take ct__law_take : Value}
    {af__law_pick : Addr} {od__law_pick an__law_pick : Option Addr} {sl__law_pick : Array (Option Value)} {oc__law_pick kV__law_pick dc__law_pick pm__law_pick cd__law_pick ct__law_pick : Value}
    {af__law_value : Addr} {od__law_value an__law_value : Option Addr} {sl__law_value : Array (Option Value)} {oc__law_value kV__law_value dc__law_value pm__law_value cd__law_value ct__law_value : Value}
    {af__law_is_number : Addr} {od__law_is_number an__law_is_number : Option Addr} {sl__law_is_number : Array (Option Value)} {oc__law_is_number kV__law_is_number dc__law_is_number pm__law_is_number cd__law_is_number ct__law_is_number : Value}
    {af__law_due : Addr} {od__law_due an__law_due : Option Addr} {sl__law_due : Array (Option Value)} {oc__law_due kV__law_due dc__law_due pm__law_due cd__law_due ct__law_due : Value}
    {af__law_heard : Addr} {od__law_heard an__law_heard : Option Addr} {sl__law_heard : Array (Option Value)} {oc__law_heard kV__law_heard dc__law_heard pm__law_heard cd__law_heard ct__law_heard : Value}
    {af_law : Addr} {od_law an_law : Option Addr} {sl_law : Array (Option Value)} {oc_law kV_law dc_law pm_law cd_law ct_law : Value}
    (z_abs : PySem.W.nsIn K mainGlobals "abs" = some none)
    (z_all : PySem.W.nsIn K mainGlobals "all" = some none)
    (z_bool : PySem.W.nsIn K mainGlobals "bool" = some none)
    (z_int : PySem.W.nsIn K mainGlobals "int" = some none)
    (z_isinstance : PySem.W.nsIn K mainGlobals "isinstance" = some none)
    (z_len : PySem.W.nsIn K mainGlobals "len" = some none)
    (z_list : PySem.W.nsIn K mainGlobals "list" = some none)
    (z_max : PySem.W.nsIn K mainGlobals "max" = some none)
    (z_min : PySem.W.nsIn K mainGlobals "min" = some none)
    (z_range : PySem.W.nsIn K mainGlobals "range" = some none)
    (z_set : PySem.W.nsIn K mainGlobals "set" = some none)
    (z_sorted : PySem.W.nsIn K mainGlobals "sorted" = some none)
    (z_str : PySem.W.nsIn K mainGlobals "str" = some none)
    (z_tuple : PySem.W.nsIn K mainGlobals "tuple" = some none)
    (zc_HOWS : PySem.W.nsIn K mainGlobals "HOWS" = some (some (.ref ac_HOWS)))
    (lc_HOWS : K.lookup ac_HOWS = some ⟨.type "tuple", odc_HOWS, .seq ([Value.str "add" tk_HOWS_0, Value.str "lose" tk_HOWS_1, Value.str "mixed" tk_HOWS_2]).toArray nc_HOWS, slc_HOWS⟩)
    (zC_InvalidWay : PySem.W.nsIn K mainGlobals "InvalidWay" = some (some (.ref aC_InvalidWay)))
    (hd_InvalidWay : PySem.W.hasDictIn K aC_InvalidWay = true)
    (ty_InvalidWay : PySem.W.typeIn K (.ref aC_InvalidWay) = some (.type "type"))
    (zC_InvalidRule : PySem.W.nsIn K mainGlobals "InvalidRule" = some (some (.ref aC_InvalidRule)))
    (hd_InvalidRule : PySem.W.hasDictIn K aC_InvalidRule = true)
    (ty_InvalidRule : PySem.W.typeIn K (.ref aC_InvalidRule) = some (.type "type"))
    (zC_StickError : PySem.W.nsIn K mainGlobals "StickError" = some (some (.ref aC_StickError)))
    (hd_StickError : PySem.W.hasDictIn K aC_StickError = true)
    (ty_StickError : PySem.W.typeIn K (.ref aC_StickError) = some (.type "type"))
    (k_InvalidWay : PySem.W.keepIn K (.ref aC_InvalidWay) = true)
    (b_InvalidWay : PySem.W.subIn K (.ref aC_InvalidWay) (.type "BaseException") = some true)
    (ss_InvalidWay : PySem.W.subIn K (.ref aC_InvalidWay) (.ref aC_InvalidWay) = some true)
    (e1_InvalidWay : PySem.W.findIn K (.ref aC_InvalidWay) "__getattribute__" = some (some (.builtin "BaseException.__getattribute__")))
    (e2_InvalidWay : PySem.W.findIn K (.ref aC_InvalidWay) "__getattr__" = some none)
    (e3_InvalidWay : PySem.W.findIn K (.ref aC_InvalidWay) "__class__" = some (some (.builtin "object.__class__")))
    (e4_InvalidWay : PySem.W.specialIn K (.builtin "object.__class__") "__get__" = some (some (.builtin "getset_descriptor.__get__")))
    (e5_InvalidWay : PySem.W.takesIn K (.builtin "object.__class__") = some true)
    (e6_InvalidWay : PySem.W.mroIn K aC_InvalidWay (.type "object") = some true)
    (oc_InvalidWay : K.lookup aC_InvalidWay = some (excClassObj oA_InvalidWay oB_InvalidWay aC_InvalidWay oN_InvalidWay oC_InvalidWay oM_InvalidWay true oD_InvalidWay oE_InvalidWay oF_InvalidWay oG_InvalidWay oH_InvalidWay oI_InvalidWay oJ_InvalidWay oK_InvalidWay oL_InvalidWay oP_InvalidWay "ValueError.__new__"))
    (rv_InvalidWay : PySem.HandSPX.refsVE oM_InvalidWay = true)
    (sa_InvalidWay : PySem.W.findIn K (.ref aC_InvalidWay) "__setattr__" = some (some (.builtin "object.__setattr__")))
    (nf_InvalidWay : PySem.W.findIn K (.ref aC_InvalidWay) "word" = some none)
    (sx_InvalidWay_StickError : PySem.W.subIn K (.ref aC_InvalidWay) (.ref aC_StickError) = some true)
    (sx_InvalidWay_InvalidRule : PySem.W.subIn K (.ref aC_InvalidWay) (.ref aC_InvalidRule) = some false)
    (zC_Way : PySem.W.nsIn K mainGlobals "Way" = some (some (.ref aC_Way)))
    (pg_Way : PySem.W.plainGet K aC_Way Str.empty = true)
    (hd_Way : PySem.W.hasDictIn K aC_Way = true)
    (po_Way : PySem.W.plainOver K aC_Way = true)
    (sa_Way : PySem.W.findIn K (.ref aC_Way) "__setattr__" = some (some (.builtin "object.__setattr__")))
    (na_Way_how : PySem.W.findIn K (.ref aC_Way) "how" = some none)
    (na_Way_most : PySem.W.findIn K (.ref aC_Way) "most" = some none)
    (na_Way_part : PySem.W.findIn K (.ref aC_Way) "part" = some none)
    (af_InvalidWay___init___ : PySem.W.findIn K (.ref aC_InvalidWay) "__init__" = some (some (.ref af_InvalidWay___init__)))
    (fn_InvalidWay___init__ : PySem.W.isFn K (.ref af_InvalidWay___init__) = true)
    (l_InvalidWay___init__ : K.lookup af_InvalidWay___init__ = some ⟨oc_InvalidWay___init__, od_InvalidWay___init__, .func (PySem.W.fnOf "__init__" "InvalidWay.__init__" (defArgs s_InvalidWay___init__) (defBody s_InvalidWay___init__) (defScope s_InvalidWay___init__) .none kV_InvalidWay___init__ dc_InvalidWay___init__ pm_InvalidWay___init__ an_InvalidWay___init__ cd_InvalidWay___init__ ct_InvalidWay___init__), sl_InvalidWay___init__⟩)
    (cc_InvalidWay___init__ : PySem.W.codeIn K cd_InvalidWay___init__ "InvalidWay.__init__" = true)
    (k_InvalidWay___init__ : PySem.W.keepIn K (.ref af_InvalidWay___init__) = true)
    (af_is_count_ : PySem.W.nsIn K mainGlobals "is_count" = some (some (.ref af_is_count)))
    (l_is_count : K.lookup af_is_count = some ⟨oc_is_count, od_is_count, .func (PySem.W.fnOf "is_count" "is_count" (defArgs s_is_count) (defBody s_is_count) (defScope s_is_count) .none kV_is_count dc_is_count pm_is_count an_is_count cd_is_count ct_is_count), sl_is_count⟩)
    (cc_is_count : PySem.W.codeIn K cd_is_count "is_count" = true)
    (k_is_count : PySem.W.keepIn K (.ref af_is_count) = true)
    (af_is_sequence_ : PySem.W.nsIn K mainGlobals "is_sequence" = some (some (.ref af_is_sequence)))
    (l_is_sequence : K.lookup af_is_sequence = some ⟨oc_is_sequence, od_is_sequence, .func (PySem.W.fnOf "is_sequence" "is_sequence" (defArgs s_is_sequence) (defBody s_is_sequence) (defScope s_is_sequence) .none kV_is_sequence dc_is_sequence pm_is_sequence an_is_sequence cd_is_sequence ct_is_sequence), sl_is_sequence⟩)
    (cc_is_sequence : PySem.W.codeIn K cd_is_sequence "is_sequence" = true)
    (k_is_sequence : PySem.W.keepIn K (.ref af_is_sequence) = true)
    (af_is_how_ : PySem.W.nsIn K mainGlobals "is_how" = some (some (.ref af_is_how)))
    (l_is_how : K.lookup af_is_how = some ⟨oc_is_how, od_is_how, .func (PySem.W.fnOf "is_how" "is_how" (defArgs s_is_how) (defBody s_is_how) (defScope s_is_how) .none kV_is_how dc_is_how pm_is_how an_is_how cd_is_how ct_is_how), sl_is_how⟩)
    (cc_is_how : PySem.W.codeIn K cd_is_how "is_how" = true)
    (k_is_how : PySem.W.keepIn K (.ref af_is_how) = true)
    (af_is_part_ : PySem.W.nsIn K mainGlobals "is_part" = some (some (.ref af_is_part)))
    (l_is_part : K.lookup af_is_part = some ⟨oc_is_part, od_is_part, .func (PySem.W.fnOf "is_part" "is_part" (defArgs s_is_part) (defBody s_is_part) (defScope s_is_part) .none kV_is_part dc_is_part pm_is_part an_is_part cd_is_part ct_is_part), sl_is_part⟩)
    (cc_is_part : PySem.W.codeIn K cd_is_part "is_part" = true)
    (k_is_part : PySem.W.keepIn K (.ref af_is_part) = true)
    (af_Way___init___ : PySem.W.findIn K (.ref aC_Way) "__init__" = some (some (.ref af_Way___init__)))
    (fn_Way___init__ : PySem.W.isFn K (.ref af_Way___init__) = true)
    (l_Way___init__ : K.lookup af_Way___init__ = some ⟨oc_Way___init__, od_Way___init__, .func (PySem.W.fnOf "__init__" "Way.__init__" (defArgs s_Way___init__) (defBody s_Way___init__) (defScope s_Way___init__) (.ref aT_Way___init__) kV_Way___init__ dc_Way___init__ pm_Way___init__ an_Way___init__ cd_Way___init__ ct_Way___init__), sl_Way___init__⟩)
    (lT_Way___init__ : K.lookup aT_Way___init__ = some ⟨ocT_Way___init__, odT_Way___init__, .seq ([Value.str "add" tkT_Way___init___0, Value.none, Value.none]).toArray nT_Way___init__, slT_Way___init__⟩)
    (cc_Way___init__ : PySem.W.codeIn K cd_Way___init__ "Way.__init__" = true)
    (k_Way___init__ : PySem.W.keepIn K (.ref af_Way___init__) = true)
    (mk_Way : PySem.W.makesIn K aC_Way = true)
    (kc_Way : PySem.W.keepIn K (.ref aC_Way) = true)
    (af__law_box_ : PySem.W.nsIn K mainGlobals "_law_box" = some (some (.ref af__law_box)))
    (l__law_box : K.lookup af__law_box = some ⟨oc__law_box, od__law_box, .func (PySem.W.fnOf "_law_box" "_law_box" (defArgs s__law_box) (defBody s__law_box) (defScope s__law_box) .none kV__law_box dc__law_box pm__law_box an__law_box cd__law_box ct__law_box), sl__law_box⟩)
    (cc__law_box : PySem.W.codeIn K cd__law_box "_law_box" = true)
    (k__law_box : PySem.W.keepIn K (.ref af__law_box) = true)
    (af__law_take_ : PySem.W.nsIn K mainGlobals "_law_take" = some (some (.ref af__law_take)))
    (l__law_take : K.lookup af__law_take = some ⟨oc__law_take, od__law_take, .func (PySem.W.fnOf "_law_take" "_law_take" (defArgs s__law_take) (defBody s__law_take) (defScope s__law_take) .none kV__law_take dc__law_take pm__law_take an__law_take cd__law_take ct__law_take), sl__law_take⟩)
    (cc__law_take : PySem.W.codeIn K cd__law_take "_law_take" = true)
    (k__law_take : PySem.W.keepIn K (.ref af__law_take) = true)
    (af__law_pick_ : PySem.W.nsIn K mainGlobals "_law_pick" = some (some (.ref af__law_pick)))
    (l__law_pick : K.lookup af__law_pick = some ⟨oc__law_pick, od__law_pick, .func (PySem.W.fnOf "_law_pick" "_law_pick" (defArgs s__law_pick) (defBody s__law_pick) (defScope s__law_pick) .none kV__law_pick dc__law_pick pm__law_pick an__law_pick cd__law_pick ct__law_pick), sl__law_pick⟩)
    (cc__law_pick : PySem.W.codeIn K cd__law_pick "_law_pick" = true)
    (k__law_pick : PySem.W.keepIn K (.ref af__law_pick) = true)
    (af__law_value_ : PySem.W.nsIn K mainGlobals "_law_value" = some (some (.ref af__law_value)))
    (l__law_value : K.lookup af__law_value = some ⟨oc__law_value, od__law_value, .func (PySem.W.fnOf "_law_value" "_law_value" (defArgs s__law_value) (defBody s__law_value) (defScope s__law_value) .none kV__law_value dc__law_value pm__law_value an__law_value cd__law_value ct__law_value), sl__law_value⟩)
    (cc__law_value : PySem.W.codeIn K cd__law_value "_law_value" = true)
    (k__law_value : PySem.W.keepIn K (.ref af__law_value) = true)
    (af__law_is_number_ : PySem.W.nsIn K mainGlobals "_law_is_number" = some (some (.ref af__law_is_number)))
    (l__law_is_number : K.lookup af__law_is_number = some ⟨oc__law_is_number, od__law_is_number, .func (PySem.W.fnOf "_law_is_number" "_law_is_number" (defArgs s__law_is_number) (defBody s__law_is_number) (defScope s__law_is_number) .none kV__law_is_number dc__law_is_number pm__law_is_number an__law_is_number cd__law_is_number ct__law_is_number), sl__law_is_number⟩)
    (cc__law_is_number : PySem.W.codeIn K cd__law_is_number "_law_is_number" = true)
    (k__law_is_number : PySem.W.keepIn K (.ref af__law_is_number) = true)
    (af__law_due_ : PySem.W.nsIn K mainGlobals "_law_due" = some (some (.ref af__law_due)))
    (l__law_due : K.lookup af__law_due = some ⟨oc__law_due, od__law_due, .func (PySem.W.fnOf "_law_due" "_law_due" (defArgs s__law_due) (defBody s__law_due) (defScope s__law_due) .none kV__law_due dc__law_due pm__law_due an__law_due cd__law_due ct__law_due), sl__law_due⟩)
    (cc__law_due : PySem.W.codeIn K cd__law_due "_law_due" = true)
    (k__law_due : PySem.W.keepIn K (.ref af__law_due) = true)
    (af__law_heard_ : PySem.W.nsIn K mainGlobals "_law_heard" = some (some (.ref af__law_heard)))
    (l__law_heard : K.lookup af__law_heard = some ⟨oc__law_heard, od__law_heard, .func (PySem.W.fnOf "_law_heard" "_law_heard" (defArgs s__law_heard) (defBody s__law_heard) (defScope s__law_heard) .none kV__law_heard dc__law_heard pm__law_heard an__law_heard cd__law_heard ct__law_heard), sl__law_heard⟩)
    (cc__law_heard : PySem.W.codeIn K cd__law_heard "_law_heard" = true)
    (k__law_heard : PySem.W.keepIn K (.ref af__law_heard) = true)
    (af_law_ : PySem.W.nsIn K mainGlobals "law" = some (some (.ref af_law)))
    (l_law : K.lookup af_law = some ⟨oc_law, od_law, .func (PySem.W.fnOf "law" "law" (defArgs s_law) (defBody s_law) (defScope s_law) .none kV_law dc_law pm_law an_law cd_law ct_law), sl_law⟩)
    (cc_law : PySem.W.codeIn K cd_law "law" = true)
    (k_law : PySem.W.keepIn K (.ref af_law) = true)
    (ti_InvalidWay : PySem.W.typeIn K (.ref af_InvalidWay___init__) = some (.type "function"))
    : ∃ fd : FuncData, (∀ (s : Shared) (v : Value), BindsTo s fd ⟨[v], []⟩ [("_law_script", v)]) ∧ ∀ base : Heap, K.In base → base.Ns mainGlobals mg → FnOk l.prog w K mg base CX0 6 fa fd ["_law_script"] (spA K c_law) := by
  have e := hfa.symm.trans (PySem.W.mg_of X G af_law_)
  have e2 : af_law = fa := by cases e; rfl
  subst e2
  have F_InvalidWay___init__ := fun_mk (st := s_InvalidWay___init__) l_InvalidWay___init__ cc_InvalidWay___init__ k_InvalidWay___init__
  have F_is_count := fun_mk (st := s_is_count) l_is_count cc_is_count k_is_count
  have F_is_sequence := fun_mk (st := s_is_sequence) l_is_sequence cc_is_sequence k_is_sequence
  have F_is_how := fun_mk (st := s_is_how) l_is_how cc_is_how k_is_how
  have F_is_part := fun_mk (st := s_is_part) l_is_part cc_is_part k_is_part
  have F_Way___init__ : FunD K "__init__" "Way.__init__" (defArgs s_Way___init__) (defBody s_Way___init__) (defScope s_Way___init__) [V.str "add", V.non, V.non] [] af_Way___init__ (PySem.W.fnOf "__init__" "Way.__init__" (defArgs s_Way___init__) (defBody s_Way___init__) (defScope s_Way___init__) (.ref aT_Way___init__) kV_Way___init__ dc_Way___init__ pm_Way___init__ an_Way___init__ cd_Way___init__ ct_Way___init__) := ⟨⟨_, _, _, _, _, _, _, _, _, _, rfl, l_Way___init__, cc_Way___init__, .inr ⟨List.cons_ne_nil _ _, _, _, _, _, rfl, lT_Way___init__, rfl, .cons ⟨_, rfl⟩ (.cons rfl (.cons rfl (.nil)))⟩, .inl rfl⟩, k_Way___init__⟩
  obtain ⟨E3_Way___init__, V3_Way___init__, B3_Way___init__⟩ := F_Way___init__.binds1 (ps := ["self", "how", "most", "part"]) 4 3 (List.cons_ne_nil _ _) rfl fun _ _ _ _ _ _ _ us its hu hi => match us, its, hu, hi with | [_, _, _, _], [_, _, _], _, _ => ⟨_, rfl, rfl⟩
  have F__law_box := fun_mk (st := s__law_box) l__law_box cc__law_box k__law_box
  have F__law_take := fun_mk (st := s__law_take) l__law_take cc__law_take k__law_take
  have F__law_pick := fun_mk (st := s__law_pick) l__law_pick cc__law_pick k__law_pick
  have F__law_value := fun_mk (st := s__law_value) l__law_value cc__law_value k__law_value
  have F__law_is_number := fun_mk (st := s__law_is_number) l__law_is_number cc__law_is_number k__law_is_number
  have F__law_due := fun_mk (st := s__law_due) l__law_due cc__law_due k__law_due
  have F__law_heard := fun_mk (st := s__law_heard) l__law_heard cc__law_heard k__law_heard
  have F_law := fun_mk (st := s_law) l_law cc_law k_law
  let T : Txt K mg := {
    n_abs := PySem.W.mg_none_of X G z_abs,
    n_all := PySem.W.mg_none_of X G z_all,
    n_bool := PySem.W.mg_none_of X G z_bool,
    n_int := PySem.W.mg_none_of X G z_int,
    n_isinstance := PySem.W.mg_none_of X G z_isinstance,
    n_len := PySem.W.mg_none_of X G z_len,
    n_list := PySem.W.mg_none_of X G z_list,
    n_max := PySem.W.mg_none_of X G z_max,
    n_min := PySem.W.mg_none_of X G z_min,
    n_range := PySem.W.mg_none_of X G z_range,
    n_set := PySem.W.mg_none_of X G z_set,
    n_sorted := PySem.W.mg_none_of X G z_sorted,
    n_str := PySem.W.mg_none_of X G z_str,
    n_tuple := PySem.W.mg_none_of X G z_tuple,
    a_HOWS := ac_HOWS,
    g_HOWS := PySem.W.mg_of X G zc_HOWS,
    s_HOWS := fun H => .inr ⟨_, _, _, lc_HOWS, rfl, rfl, (by show 3 ≤ sizeLine; decide), .cons ⟨_, rfl⟩ (.cons ⟨_, rfl⟩ (.cons ⟨_, rfl⟩ (.nil)))⟩,
    C_InvalidWay := aC_InvalidWay,
    g_InvalidWay := PySem.W.mg_of X G zC_InvalidWay,
    C_InvalidRule := aC_InvalidRule,
    g_InvalidRule := PySem.W.mg_of X G zC_InvalidRule,
    C_StickError := aC_StickError,
    g_StickError := PySem.W.mg_of X G zC_StickError,
    e_InvalidWay := ⟨e1_InvalidWay, e2_InvalidWay, b_InvalidWay, hd_InvalidWay, e3_InvalidWay, e4_InvalidWay, e5_InvalidWay, e6_InvalidWay⟩,
    te_InvalidWay := PySem.W.exm_ref b_InvalidWay hd_InvalidWay ty_InvalidWay ss_InvalidWay,
    o_InvalidWay := ⟨⟨_, _, _, _, _, _, _, _, _, _, _, _, _, _, _, oc_InvalidWay, rv_InvalidWay⟩, sa_InvalidWay, b_InvalidWay, ty_InvalidWay, k_InvalidWay⟩,
    xf_InvalidWay := ⟨e1_InvalidWay, e2_InvalidWay, b_InvalidWay, hd_InvalidWay⟩,
    nf_InvalidWay := nf_InvalidWay,
    kx_InvalidWay_StickError := kit_own hd_StickError ty_StickError ss_InvalidWay sx_InvalidWay_StickError,
    kx_InvalidWay_InvalidRule := kit_own hd_InvalidRule ty_InvalidRule ss_InvalidWay sx_InvalidWay_InvalidRule,
    C_Way := aC_Way,
    g_Way := PySem.W.mg_of X G zC_Way,
    cl_Way := ⟨pg_Way, hd_Way, po_Way, sa_Way⟩,
    no_Way_how := na_Way_how,
    no_Way_most := na_Way_most,
    no_Way_part := na_Way_part,
    a_InvalidWay___init__ := af_InvalidWay___init__,
    d_InvalidWay___init__ := _,
    F_InvalidWay___init__ := F_InvalidWay___init__,
    b_InvalidWay___init__ := F_InvalidWay___init__.binds (ps := ["self", "word"]) fun _ _ _ _ _ _ us hl => match us, hl with | [_, _], _ => rfl,
    a_is_count := af_is_count,
    d_is_count := _,
    F_is_count := F_is_count,
    b_is_count := F_is_count.binds (ps := ["value"]) fun _ _ _ _ _ _ us hl => match us, hl with | [_], _ => rfl,
    g_is_count := PySem.W.mg_of X G af_is_count_,
    a_is_sequence := af_is_sequence,
    d_is_sequence := _,
    F_is_sequence := F_is_sequence,
    b_is_sequence := F_is_sequence.binds (ps := ["value"]) fun _ _ _ _ _ _ us hl => match us, hl with | [_], _ => rfl,
    g_is_sequence := PySem.W.mg_of X G af_is_sequence_,
    a_is_how := af_is_how,
    d_is_how := _,
    F_is_how := F_is_how,
    b_is_how := F_is_how.binds (ps := ["value"]) fun _ _ _ _ _ _ us hl => match us, hl with | [_], _ => rfl,
    g_is_how := PySem.W.mg_of X G af_is_how_,
    a_is_part := af_is_part,
    d_is_part := _,
    F_is_part := F_is_part,
    b_is_part := F_is_part.binds (ps := ["value"]) fun _ _ _ _ _ _ us hl => match us, hl with | [_], _ => rfl,
    g_is_part := PySem.W.mg_of X G af_is_part_,
    a_Way___init__ := af_Way___init__,
    d_Way___init__ := _,
    F_Way___init__ := F_Way___init__,
    e3_Way___init__ := E3_Way___init__,
    b3_Way___init__ := B3_Way___init__,
    d3_Way___init__ := V3_Way___init__,
    mk_Way := ⟨mk_Way, af_Way___init___, fn_Way___init__, kc_Way⟩,
    a__law_box := af__law_box,
    d__law_box := _,
    F__law_box := F__law_box,
    b__law_box := F__law_box.binds (ps := ["_law_script", "_law_k", "_law_own"]) fun _ _ _ _ _ _ us hl => match us, hl with | [_, _, _], _ => rfl,
    g__law_box := PySem.W.mg_of X G af__law_box_,
    a__law_take := af__law_take,
    d__law_take := _,
    F__law_take := F__law_take,
    b__law_take := F__law_take.binds (ps := ["_law_box_here", "_law_bound"]) fun _ _ _ _ _ _ us hl => match us, hl with | [_, _], _ => rfl,
    g__law_take := PySem.W.mg_of X G af__law_take_,
    a__law_pick := af__law_pick,
    d__law_pick := _,
    F__law_pick := F__law_pick,
    b__law_pick := F__law_pick.binds (ps := ["_law_box_here", "_law_items"]) fun _ _ _ _ _ _ us hl => match us, hl with | [_, _], _ => rfl,
    g__law_pick := PySem.W.mg_of X G af__law_pick_,
    a__law_value := af__law_value,
    d__law_value := _,
    F__law_value := F__law_value,
    b__law_value := F__law_value.binds (ps := ["_law_box_here"]) fun _ _ _ _ _ _ us hl => match us, hl with | [_], _ => rfl,
    g__law_value := PySem.W.mg_of X G af__law_value_,
    a__law_is_number := af__law_is_number,
    d__law_is_number := _,
    F__law_is_number := F__law_is_number,
    b__law_is_number := F__law_is_number.binds (ps := ["_law_value_here"]) fun _ _ _ _ _ _ us hl => match us, hl with | [_], _ => rfl,
    g__law_is_number := PySem.W.mg_of X G af__law_is_number_,
    a__law_due := af__law_due,
    d__law_due := _,
    F__law_due := F__law_due,
    b__law_due := F__law_due.binds (ps := ["_law_how", "_law_most", "_law_part"]) fun _ _ _ _ _ _ us hl => match us, hl with | [_, _, _], _ => rfl,
    g__law_due := PySem.W.mg_of X G af__law_due_,
    a__law_heard := af__law_heard,
    d__law_heard := _,
    F__law_heard := F__law_heard,
    b__law_heard := F__law_heard.binds (ps := ["_law_how", "_law_most", "_law_part"]) fun _ _ _ _ _ _ us hl => match us, hl with | [_, _, _], _ => rfl,
    g__law_heard := PySem.W.mg_of X G af__law_heard_,
    a_law := af_law,
    d_law := _,
    F_law := F_law,
    b_law := F_law.binds (ps := ["_law_script"]) fun _ _ _ _ _ _ us hl => match us, hl with | [_], _ => rfl,
    g_law := PySem.W.mg_of X G af_law_,
    i_InvalidWay := af_InvalidWay___init___,
    ti_InvalidWay := ti_InvalidWay }
  exact ⟨T.d_law, fun s v => .of_eq rfl, fun base _ _ => ok_law (P := l.prog) (w := w) (base := base) T⟩
end Law
open PySem PySem.W PyProof.Rows
set_option maxRecDepth 100000 in
set_option maxHeartbeats 0 in
theorem PySem.Challenge.cw_notchsafe_k03_ways_refused_holds : PySem.Challenge.rw_notchsafe_k03_ways_refused.Holds := by
  w_on; o_law; k_head; (case hw => w_witness2)
  k_fill
  refine L2.walk_ofK (l := PySem.Challenge.rw_notchsafe_k03_ways_refused) (n := 63) (k := 6) (x := "_law_script") (CX := L2.CX0) (sp := fun K => L3.spA K Law.c_law) rfl (by decide) rfl ⟨rfl, by decide, by decide⟩ (fun w h Y => PySem.W.kIn_of Y) ?F Law.law_in (fun _ _ _ _ h => h)
  case F =>
    intro w mg fa h KX G hmg
    refine' Law.all_mk KX G hmg ?z_abs ?z_all ?z_bool ?z_int ?z_isinstance ?z_len ?z_list ?z_max ?z_min ?z_range ?z_set ?z_sorted ?z_str ?z_tuple ?zc_HOWS ?lc_HOWS ?zC_InvalidWay ?hd_InvalidWay ?ty_InvalidWay ?zC_InvalidRule ?hd_InvalidRule ?ty_InvalidRule ?zC_StickError ?hd_StickError ?ty_StickError ?k_InvalidWay ?b_InvalidWay ?ss_InvalidWay ?e1_InvalidWay ?e2_InvalidWay ?e3_InvalidWay ?e4_InvalidWay ?e5_InvalidWay ?e6_InvalidWay ?oc_InvalidWay ?rv_InvalidWay ?sa_InvalidWay ?nf_InvalidWay ?sx_InvalidWay_StickError ?sx_InvalidWay_InvalidRule ?zC_Way ?pg_Way ?hd_Way ?po_Way ?sa_Way ?na_Way_how ?na_Way_most ?na_Way_part ?af_InvalidWay___init___ ?fn_InvalidWay___init__ ?l_InvalidWay___init__ ?cc_InvalidWay___init__ ?k_InvalidWay___init__ ?af_is_count_ ?l_is_count ?cc_is_count ?k_is_count ?af_is_sequence_ ?l_is_sequence ?cc_is_sequence ?k_is_sequence ?af_is_how_ ?l_is_how ?cc_is_how ?k_is_how ?af_is_part_ ?l_is_part ?cc_is_part ?k_is_part ?af_Way___init___ ?fn_Way___init__ ?l_Way___init__ ?lT_Way___init__ ?cc_Way___init__ ?k_Way___init__ ?mk_Way ?kc_Way ?af__law_box_ ?l__law_box ?cc__law_box ?k__law_box ?af__law_take_ ?l__law_take ?cc__law_take ?k__law_take ?af__law_pick_ ?l__law_pick ?cc__law_pick ?k__law_pick ?af__law_value_ ?l__law_value ?cc__law_value ?k__law_value ?af__law_is_number_ ?l__law_is_number ?cc__law_is_number ?k__law_is_number ?af__law_due_ ?l__law_due ?cc__law_due ?k__law_due ?af__law_heard_ ?l__law_heard ?cc__law_heard ?k__law_heard ?af_law_ ?l_law ?cc_law ?k_law ?ti_InvalidWay
    (case z_abs => k_is); (case z_all => k_is); (case z_bool => k_is); (case z_int => k_is); (case z_isinstance => k_is); (case z_len => k_is)
    (case z_list => k_is); (case z_max => k_is); (case z_min => k_is); (case z_range => k_is); (case z_set => k_is); (case z_sorted => k_is)
    (case z_str => k_is); (case z_tuple => k_is); (case zc_HOWS => k_is); (case lc_HOWS => k_is); (case zC_InvalidWay => k_is); (case hd_InvalidWay => k_is)
    (case ty_InvalidWay => k_is); (case zC_InvalidRule => k_is); (case hd_InvalidRule => k_is); (case ty_InvalidRule => k_is); (case zC_StickError => k_is); (case hd_StickError => k_is)
    (case ty_StickError => k_is); (case k_InvalidWay => k_is); (case b_InvalidWay => k_is); (case ss_InvalidWay => k_is); (case e1_InvalidWay => k_is); (case e2_InvalidWay => k_is)
    (case e3_InvalidWay => k_is); (case e4_InvalidWay => k_is); (case e5_InvalidWay => k_is); (case e6_InvalidWay => k_is); (case oc_InvalidWay => k_is); (case rv_InvalidWay => decide +kernel)
    (case sa_InvalidWay => k_is); (case nf_InvalidWay => k_is); (case sx_InvalidWay_StickError => k_is); (case sx_InvalidWay_InvalidRule => k_is); (case zC_Way => k_is); (case pg_Way => k_is)
    (case hd_Way => k_is); (case po_Way => k_is); (case sa_Way => k_is); (case na_Way_how => k_is); (case na_Way_most => k_is); (case na_Way_part => k_is)
    (case af_InvalidWay___init___ => k_is); (case fn_InvalidWay___init__ => k_is); (case l_InvalidWay___init__ => k_is); (case cc_InvalidWay___init__ => k_is); (case k_InvalidWay___init__ => k_is); (case af_is_count_ => k_is)
    (case l_is_count => k_is); (case cc_is_count => k_is); (case k_is_count => k_is); (case af_is_sequence_ => k_is); (case l_is_sequence => k_is); (case cc_is_sequence => k_is)
    (case k_is_sequence => k_is); (case af_is_how_ => k_is); (case l_is_how => k_is); (case cc_is_how => k_is); (case k_is_how => k_is); (case af_is_part_ => k_is)
    (case l_is_part => k_is); (case cc_is_part => k_is); (case k_is_part => k_is); (case af_Way___init___ => k_is); (case fn_Way___init__ => k_is); (case l_Way___init__ => k_is)
    (case lT_Way___init__ => k_is); (case cc_Way___init__ => k_is); (case k_Way___init__ => k_is); (case mk_Way => k_is); (case kc_Way => k_is); (case af__law_box_ => k_is)
    (case l__law_box => k_is); (case cc__law_box => k_is); (case k__law_box => k_is); (case af__law_take_ => k_is); (case l__law_take => k_is); (case cc__law_take => k_is)
    (case k__law_take => k_is); (case af__law_pick_ => k_is); (case l__law_pick => k_is); (case cc__law_pick => k_is); (case k__law_pick => k_is); (case af__law_value_ => k_is)
    (case l__law_value => k_is); (case cc__law_value => k_is); (case k__law_value => k_is); (case af__law_is_number_ => k_is); (case l__law_is_number => k_is); (case cc__law_is_number => k_is)
    (case k__law_is_number => k_is); (case af__law_due_ => k_is); (case l__law_due => k_is); (case cc__law_due => k_is); (case k__law_due => k_is); (case af__law_heard_ => k_is)
    (case l__law_heard => k_is); (case cc__law_heard => k_is); (case k__law_heard => k_is); (case af_law_ => k_is); (case l_law => k_is); (case cc_law => k_is)
    (case k_law => k_is); (case ti_InvalidWay => k_is)
