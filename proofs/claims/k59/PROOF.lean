import PyProof.Rows.All
import HandS.ForMost
import HandS.ForExc
import HandS.Deep
import HandS.Wide
import HandS.IsInst
import HandS.RaiseMore
import HandS.TupMul
import HandS.TupAny
import HandS.Flow
import HandS.CallSlots
import HandS.WideMore
import KE.DataEq
import KE.DataAny
import PyProof.RowDictHeap
import PyProof.ReprRoads
import KE.KRevSl
import HandS.Style
import KE.GoesEnumKw
import HandS.Iter
import HandS.Ends
import PyProof.ReprLen
import PyProof.Rows.StrJoinMade
import PyProof.Rows.StrDigitsNeg
import HandS.Star
import HandS.Conv
import PyProof.EqKinds
import PyProof.FactsAll.dict_1
import HandS.Strs
import PyProof.Rows.IntBool
import HandS.ExcInit
import HandS.HeadHook3
import HandS.List
import KE.DataMinMax
import PyProof.Rows.CallKwBuiltin
import HandS.More
import HandS.Dict
import KE.DatumOrd
import HandS.DictComp
import HandS.NoneIn
import HandS.Text
import HandS.FStr
import HandS.StrMore
import HandS.Replace
import PyProof.StrBlock2
import HandS.SetKeys
import PySem.Challenge.RW_fragweave_k59_how_soon_values_change
set_option Elab.async false
set_option linter.all false
set_option maxRecDepth 100000
set_option maxHeartbeats 4000000
/-! L3: data in place of addresses. D: what a value is worth (lists too, as long as nobody changes them); O: a thing that one name owns and may change; S: a slot. Readings over these alone. -/
namespace L3
open PySem PySem.Spec PyProof.Rows L2
abbrev Sg := L2.St

inductive D where
  | non | bl (b : Bool) | int (i : Int) | str (x : Str)
  | tup (xs : List D) | lst (xs : List D) | dic (kvs : List (Key × D))
  | ref (a : Addr) | ty (n : String) | scr (ns : List Int)
  | exc (a dd : Addr) (fs : List (Str × D))
  | fn (x : Str)
  /-- a tuple whose object has no dict of its own -/
  | tun (xs : List D)
  /-- a dict that is locked -/
  | dil (kvs : List (Key × D))
inductive O where
  | leaf (d : D) | ls (ds : List D) | ll (ts : List O)
  /-- a dict with these keys -/
  | dc (ks : List Key) (ts : List O)
/-- what a name holds: nothing that is known; a value; a thing of its own (of the parameter j, if that is told) -/
inductive S where
  | un | v (d : D) | o (j : Option Nat) (t : O)
structure Exn where
  cls : Value
  fs : List (Str × D)

mutual
@[simp] def O.fz : O → D
  | .leaf d => d
  | .ls ds => .lst ds
  | .ll ts => .lst (fzs ts)
  | .dc ks ts => .dic (ks.zip (fzs ts))
@[simp] def fzs : List O → List D
  | [] => []
  | t :: ts => t.fz :: fzs ts
end
theorem fzs_map : ∀ ts : List O, fzs ts = ts.map O.fz
  | [] => rfl
  | t :: ts => by rw [fzs, fzs_map ts, List.map_cons]

/-! ### the heap's part that nobody changes -/
def Sub (F H : Hp) : Prop := ∀ a o, F a = some o → H a = some o
theorem Sub.refl {F : Hp} : Sub F F := fun _ _ h => h
theorem Sub.trans {F G H : Hp} (h : Sub F G) (h' : Sub G H) : Sub F H := fun a o q => h' a o (h a o q)
theorem Sub.none {F H : Hp} (h : Sub F H) {a : Addr} (q : H a = none) : F a = none := by
  cases e : F a with
  | none => rfl
  | some o => rw [h a o e] at q; cases q
section
variable {K : PySem.W.Frag} {F H : Hp} {a : Addr} {u : HO} {xs : List V}
theorem Sub.rd (h : Sub F H) (r : Rd F a u) : Rd H a u := r.imp (h a _) fun ⟨o, q⟩ => ⟨o, h a _ q⟩
theorem Sub.sqL (h : Sub F H) (r : SqL K F a xs) : SqL K H a xs := r.imp h.rd id
theorem Sub.sqT (h : Sub F H) (r : SqT K F a xs) : SqT K H a xs := r.imp h.rd id
end
mutual
inductive Rp (K : PySem.W.Frag) (F : Hp) : V → D → Prop
  | non : Rp K F .non .non
  | bl (b : Bool) : Rp K F (.bl b) (.bl b)
  | int (i : Int) : Rp K F (.int i) (.int i)
  | str (x : Str) : Rp K F (.str x) (.str x)
  | ref (a : Addr) : Rp K F (.ref a) (.ref a)
  | ty (n : String) : Rp K F (.ty n) (.ty n)
  | tup {a : Addr} {vs : List V} {ds : List D} : SqT K F a vs → RpAll K F vs ds → Rp K F (.ref a) (.tup ds)
  | lst {a : Addr} {vs : List V} {ds : List D} : F a = some (.lst vs) → RpAll K F vs ds → Rp K F (.ref a) (.lst ds)
  | scr {a : Addr} {ns : List Int} : SqL K F a (ns.map V.int) → Rp K F (.ref a) (.scr ns)
  | dic {a : Addr} {kvs : List (Key × V)} {kds : List (Key × D)} : Rd F a (.dK kvs) → RpKv K F kvs kds → Rp K F (.ref a) (.dic kds)
  | exc {a dd : Addr} {fs : List (Str × V)} {gs : List (Str × D)} : Rd F dd (.xd fs) → RpFl K F fs gs → Rp K F (.ref a) (.exc a dd gs)
  | fn {f : Addr} {x : Str} : PySem.W.nsIn K mainGlobals x = some (some (.ref f)) → Rp K F (.ref f) (.fn x)
  | tun {a : Addr} {ob : Obj} {vs : List V} {ds : List D} : F a = some (.frz ob (.tup vs)) → ob.dict = none → RpAll K F vs ds → Rp K F (.ref a) (.tun ds)
  | dil {a : Addr} {ob : Obj} {kvs : List (Key × V)} {kds : List (Key × D)} : F a = some (.frz ob (.dK kvs)) → RpKv K F kvs kds → Rp K F (.ref a) (.dil kds)
inductive RpAll (K : PySem.W.Frag) (F : Hp) : List V → List D → Prop
  | nil : RpAll K F [] []
  | cons {v : V} {vs : List V} {d : D} {ds : List D} : Rp K F v d → RpAll K F vs ds → RpAll K F (v :: vs) (d :: ds)
inductive RpFl (K : PySem.W.Frag) (F : Hp) : List (Str × V) → List (Str × D) → Prop
  | nil : RpFl K F [] []
  | cons {k : Str} {v : V} {vs : List (Str × V)} {d : D} {ds : List (Str × D)} : Rp K F v d → RpFl K F vs ds → RpFl K F ((k, v) :: vs) ((k, d) :: ds)
inductive RpKv (K : PySem.W.Frag) (F : Hp) : List (Key × V) → List (Key × D) → Prop
  | nil : RpKv K F [] []
  | cons {k : Key} {v : V} {vs : List (Key × V)} {d : D} {ds : List (Key × D)} : Rp K F v d → RpKv K F vs ds → RpKv K F ((k, v) :: vs) ((k, d) :: ds)
end
section
variable {K : PySem.W.Frag} {F H : Hp}
mutual
theorem Rp.mono (h : Sub F H) : ∀ (d : D) (v : V), Rp K F v d → Rp K H v d
  | .non, _, .non => .non
  | .bl _, _, .bl b => .bl b
  | .int _, _, .int i => .int i
  | .str _, _, .str x => .str x
  | .ref _, _, .ref a => .ref a
  | .ty _, _, .ty n => .ty n
  | .tup ds, _, .tup q r => .tup (h.sqT q) (RpAll.mono h ds _ r)
  | .lst ds, _, .lst q r => .lst (h _ _ q) (RpAll.mono h ds _ r)
  | .scr _, _, .scr q => .scr (h.sqL q)
  | .dic ds, _, .dic q r => .dic (h.rd q) (RpKv.mono h ds _ r)
  | .exc a dd ds, _, .exc q r => .exc (h.rd q) (RpFl.mono h ds _ r)
  | .fn _, _, .fn e => .fn e
  | .tun ds, _, .tun q n r => .tun (h _ _ q) n (RpAll.mono h ds _ r)
  | .dil ds, _, .dil q r => .dil (h _ _ q) (RpKv.mono h ds _ r)
theorem RpAll.mono (h : Sub F H) : ∀ (ds : List D) (vs : List V), RpAll K F vs ds → RpAll K H vs ds
  | [], _, .nil => .nil
  | d :: ds, _, .cons r q => .cons (Rp.mono h d _ r) (RpAll.mono h ds _ q)
theorem RpFl.mono (h : Sub F H) : ∀ (ds : List (Str × D)) (vs : List (Str × V)), RpFl K F vs ds → RpFl K H vs ds
  | [], _, .nil => .nil
  | (_, d) :: ds, _, .cons r q => .cons (Rp.mono h d _ r) (RpFl.mono h ds _ q)
theorem RpKv.mono (h : Sub F H) : ∀ (ds : List (Key × D)) (vs : List (Key × V)), RpKv K F vs ds → RpKv K H vs ds
  | [], _, .nil => .nil
  | (_, d) :: ds, _, .cons r q => .cons (Rp.mono h d _ r) (RpKv.mono h ds _ q)
end
theorem RpAll.length : ∀ {vs : List V} {ds : List D}, RpAll K F vs ds → vs.length = ds.length
  | _, _, .nil => rfl
  | _, _, .cons _ q => by rw [List.length_cons, List.length_cons, RpAll.length q]
theorem RpAll.get : ∀ {vs : List V} {ds : List D} {i : Nat} {d : D}, RpAll K F vs ds → ds[i]? = some d → ∃ v, vs[i]? = some v ∧ Rp K F v d
  | _, _, _, _, .nil, e => by simp at e
  | _, _, 0, _, .cons r _, e => by simp at e; subst e; exact ⟨_, rfl, r⟩
  | _, _, i + 1, _, .cons _ q, e => by
    obtain ⟨v, h1, h2⟩ := RpAll.get (i := i) q (by simpa using e)
    exact ⟨v, by simpa using h1, h2⟩
theorem RpAll.append : ∀ {vs ws : List V} {ds es : List D}, RpAll K F vs ds → RpAll K F ws es → RpAll K F (vs ++ ws) (ds ++ es)
  | _, _, _, _, .nil, s => s
  | _, _, _, _, .cons r t, s => .cons r (RpAll.append t s)
theorem RpAll.take : ∀ {vs : List V} {ds : List D} (n : Nat), RpAll K F vs ds → RpAll K F (vs.take n) (ds.take n)
  | _, _, 0, _ => .nil
  | _, _, _ + 1, .nil => .nil
  | _, _, n + 1, .cons r t => .cons r (RpAll.take n t)
theorem RpAll.drop : ∀ {vs : List V} {ds : List D} (n : Nat), RpAll K F vs ds → RpAll K F (vs.drop n) (ds.drop n)
  | _, _, 0, r => r
  | _, _, _ + 1, .nil => .nil
  | _, _, n + 1, .cons _ t => RpAll.drop n t
theorem RpAll.reverse : ∀ {vs : List V} {ds : List D}, RpAll K F vs ds → RpAll K F vs.reverse ds.reverse
  | _, _, .nil => .nil
  | _, _, .cons r q => by rw [List.reverse_cons, List.reverse_cons]; exact (RpAll.reverse q).append (.cons r .nil)
theorem RpAll.rep {vs : List V} {ds : List D} (h : RpAll K F vs ds) : ∀ k : Nat, RpAll K F (List.replicate k vs).flatten (List.replicate k ds).flatten
  | 0 => .nil
  | k + 1 => by rw [List.replicate_succ, List.replicate_succ, List.flatten_cons, List.flatten_cons]; exact h.append (RpAll.rep h k)
end

/-! ### what a name owns -/
mutual
inductive Own (K : PySem.W.Frag) (F H : Hp) : V → O → List Addr → Prop
  | leaf {v : V} {d : D} : Rp K F v d → Own K F H v (.leaf d) []
  | ls {a : Addr} {vs : List V} {ds : List D} : H a = some (.lst vs) → RpAll K F vs ds → Own K F H (.ref a) (.ls ds) [a]
  | ll {a : Addr} {vs : List V} {ts : List O} {r : List Addr} : H a = some (.lst vs) → Owns K F H vs ts r → a ∉ r → Own K F H (.ref a) (.ll ts) (a :: r)
  | dc {a : Addr} {kvs : List (Key × V)} {ks : List Key} {ts : List O} {r : List Addr} : H a = some (.dK kvs) → kvs.map (·.1) = ks → ks.Nodup → Owns K F H (kvs.map (·.2)) ts r → a ∉ r → Own K F H (.ref a) (.dc ks ts) (a :: r)
inductive Owns (K : PySem.W.Frag) (F H : Hp) : List V → List O → List Addr → Prop
  | nil : Owns K F H [] [] []
  | cons {v : V} {vs : List V} {t : O} {ts : List O} {r rs : List Addr} : Own K F H v t r → Owns K F H vs ts rs → (∀ a ∈ r, a ∉ rs) → Owns K F H (v :: vs) (t :: ts) (r ++ rs)
end
section
variable {K : PySem.W.Frag} {F F' H H' : Hp}
mutual
theorem Own.mono (h : Sub F F') : ∀ (t : O) (v : V) (r : List Addr), (∀ a ∈ r, H' a = H a) → Own K F H v t r → Own K F' H' v t r
  | .leaf d, _, _, _, .leaf q => .leaf (Rp.mono h d _ q)
  | .ls ds, _, _, k, .ls q p => .ls ((k _ List.mem_cons_self).trans q) (RpAll.mono h ds _ p)
  | .ll ts, _, _, k, .ll q p n => .ll ((k _ List.mem_cons_self).trans q) (Owns.mono h ts _ _ (fun a ha => k a (List.mem_cons_of_mem _ ha)) p) n
  | .dc ks ts, _, _, k, .dc q e d p n => .dc ((k _ List.mem_cons_self).trans q) e d (Owns.mono h ts _ _ (fun a ha => k a (List.mem_cons_of_mem _ ha)) p) n
theorem Owns.mono (h : Sub F F') : ∀ (ts : List O) (vs : List V) (r : List Addr), (∀ a ∈ r, H' a = H a) → Owns K F H vs ts r → Owns K F' H' vs ts r
  | [], _, _, _, .nil => .nil
  | t :: ts, _, _, k, .cons q p n => .cons (Own.mono h t _ _ (fun a ha => k a (List.mem_append_left _ ha)) q) (Owns.mono h ts _ _ (fun a ha => k a (List.mem_append_right _ ha)) p) n
end
mutual
theorem Own.there : ∀ (t : O) (v : V) (r : List Addr), Own K F H v t r → ∀ a ∈ r, ∃ x, H a = some x
  | .leaf d, _, _, .leaf q, _, ha => nomatch ha
  | .ls ds, _, _, .ls q p, a, ha => by
    rcases List.mem_cons.mp ha with e | ha
    · subst e; exact ⟨_, q⟩
    · exact nomatch ha
  | .ll ts, _, _, .ll q p n, a, ha => by
    rcases List.mem_cons.mp ha with e | ha
    · subst e; exact ⟨_, q⟩
    · exact Owns.there ts _ _ p a ha
  | .dc ks ts, _, _, .dc q e d p n, a, ha => by
    rcases List.mem_cons.mp ha with z | ha
    · subst z; exact ⟨_, q⟩
    · exact Owns.there ts _ _ p a ha
theorem Owns.there : ∀ (ts : List O) (vs : List V) (r : List Addr), Owns K F H vs ts r → ∀ a ∈ r, ∃ x, H a = some x
  | [], _, _, .nil, _, ha => nomatch ha
  | t :: ts, _, _, .cons q p n, a, ha => (List.mem_append.mp ha).elim (Own.there t _ _ q a) (Owns.there ts _ _ p a)
end
theorem RpKv.zip {K : PySem.W.Frag} {F : Hp} : ∀ {kvs : List (Key × V)} {ds : List D}, RpAll K F (kvs.map (·.2)) ds → RpKv K F kvs ((kvs.map (·.1)).zip ds)
  | [], [], _ => .nil
  | [], _ :: _, h => nomatch h
  | _ :: _, [], h => nomatch h
  | (k, v) :: kvs, d :: ds, h => by
    have h : RpAll K F (v :: kvs.map (·.2)) (d :: ds) := h
    cases h with
    | cons p q => exact .cons p (RpKv.zip q)
mutual
/-- a thing that is no more changed is a value -/
theorem Own.rp (h : Sub F F') : ∀ (t : O) (v : V) (r : List Addr), (∀ a ∈ r, F' a = H a) → Own K F H v t r → Rp K F' v t.fz
  | .leaf d, _, _, _, .leaf q => Rp.mono h d _ q
  | .ls ds, _, _, k, .ls q p => .lst ((k _ List.mem_cons_self).trans q) (RpAll.mono h ds _ p)
  | .ll ts, _, _, k, .ll q p n => .lst ((k _ List.mem_cons_self).trans q) (Owns.rp h ts _ _ (fun a ha => k a (List.mem_cons_of_mem _ ha)) p)
  | .dc ks ts, _, _, k, .dc q e d p n => .dic (Rd.of ((k _ List.mem_cons_self).trans q)) (e ▸ RpKv.zip (Owns.rp h ts _ _ (fun a ha => k a (List.mem_cons_of_mem _ ha)) p))
theorem Owns.rp (h : Sub F F') : ∀ (ts : List O) (vs : List V) (r : List Addr), (∀ a ∈ r, F' a = H a) → Owns K F H vs ts r → RpAll K F' vs (fzs ts)
  | [], _, _, _, .nil => .nil
  | t :: ts, _, _, k, .cons q p n => .cons (Own.rp h t _ _ (fun a ha => k a (List.mem_append_left _ ha)) q) (Owns.rp h ts _ _ (fun a ha => k a (List.mem_append_right _ ha)) p)
end
theorem Owns.length : ∀ {ts : List O} {vs : List V} {r : List Addr}, Owns K F H vs ts r → vs.length = ts.length
  | _, _, _, .nil => rfl
  | _, _, _, .cons _ p _ => by rw [List.length_cons, List.length_cons, Owns.length p]
end

/-! ### a frame's state -/
def SlotOk (K : PySem.W.Frag) (pa : List V) (F H : Hp) (x : Option (Option V)) (r : List Addr) : S → Prop
  | .un => r = []
  | .v d => r = [] ∧ ∃ v, x = some (some v) ∧ Rp K F v d
  | .o j t => ∃ v, x = some (some v) ∧ Own K F H v t r ∧ ∀ k, j = some k → pa[k]? = some v
structure OkF (K : PySem.W.Frag) (pa : List V) (F H : Hp) (σ : Sg) (Γ : List S) (R : Nat → List Addr) : Prop where
  sub : Sub F H
  len : Γ.length = σ.length
  sl : ∀ i s, Γ[i]? = some s → SlotOk K pa F H σ[i]? (R i) s
  dj : ∀ i j a, a ∈ R i → a ∈ R j → i = j
  fr : ∀ i a, a ∈ R i → F a = none
  hs : ∀ i a, a ∈ R i → H a ≠ none
  /-- the address of the system's own table is taken -/
  sys : ∃ o φ, F sysModules = some (.frz o (.ext φ))
/-- what may have changed -/
structure Stp (F H : Hp) (R : Nat → List Addr) (F' H' : Hp) (R' : Nat → List Addr) (r : List Addr) : Prop where
  sub : Sub F F'
  keep : ∀ a o, H a = some o → (∀ i, a ∉ R i) → H' a = some o
  rn : ∀ i a, a ∈ R' i → H a = none ∨ ∃ j, a ∈ R j
  r1 : ∀ a, a ∈ r → H a = none ∨ ∃ j, a ∈ R j
  fn : ∀ a, F' a ≠ none → F a ≠ none ∨ H a = none ∨ ∃ j, a ∈ R j
structure Res (K : PySem.W.Frag) (F H : Hp) (R : Nat → List Addr) (v : V) (t : O) (r : List Addr) : Prop where
  own : Own K F H v t r
  dj : ∀ i a, a ∈ r → a ∉ R i
  fr : ∀ a, a ∈ r → F a = none
section
variable {K : PySem.W.Frag} {pa : List V} {F F' F'' H H' H'' : Hp} {σ : Sg} {Γ Γ' : List S} {R R' R'' : Nat → List Addr} {r r' : List Addr} {v : V} {t : O} {d : D}
theorem Stp.refl : Stp F H R F H R [] := ⟨.refl, fun _ _ q _ => q, fun i a h => .inr ⟨i, h⟩, fun _ h => (nomatch h), fun _ h => .inl h⟩
theorem Stp.back (s : Stp F H R F' H' R' r) {a : Addr} (h : H' a = none ∨ ∃ j, a ∈ R' j) : H a = none ∨ ∃ j, a ∈ R j := by
  rcases h with h | ⟨j, h⟩
  · cases e : H a with
    | none => exact .inl rfl
    | some o =>
      refine .inr (Classical.byContradiction fun n => ?_)
      have := s.keep a o e fun i hi => n ⟨i, hi⟩
      rw [h] at this; cases this
  · exact s.rn j a h
theorem Stp.trans (s : Stp F H R F' H' R' r) (s' : Stp F' H' R' F'' H'' R'' r') : Stp F H R F'' H'' R'' r' where
  sub := s.sub.trans s'.sub
  keep := fun a o q n => s'.keep a o (s.keep a o q n) fun i hi => by
    rcases s.rn i a hi with h | ⟨j, h⟩
    · rw [q] at h; cases h
    · exact n j h
  rn := fun i a h => s.back (s'.rn i a h)
  r1 := fun a h => s.back (s'.r1 a h)
  fn := fun a h => (s'.fn a h).elim (s.fn a) fun q => .inr (s.back q)
theorem Stp.noR (s : Stp F H R F' H' R' r) : Stp F H R F' H' R' [] := ⟨s.sub, s.keep, s.rn, fun _ h => (nomatch h), s.fn⟩
theorem Stp.withR (s : Stp F H R F' H' R' r) (h : ∀ a, a ∈ r' → H a = none ∨ ∃ j, a ∈ R j) : Stp F H R F' H' R' r' := ⟨s.sub, s.keep, s.rn, h, s.fn⟩
/-- a thing at hand stays through a step -/
theorem Res.keep (x : Res K F H R v t r) (s : Stp F H R F' H' R' r') : Res K F' H' R' v t r := by
  have old : ∀ a, a ∈ r → ∃ o, H a = some o := fun a ha => let ⟨xs, e⟩ := x.own.there _ _ _ a ha; ⟨_, e⟩
  have nj : ∀ a, a ∈ r → ¬ (H a = none ∨ ∃ j, a ∈ R j) := fun a ha h => by
    obtain ⟨o, e⟩ := old a ha
    rcases h with h | ⟨j, h⟩
    · rw [e] at h; cases h
    · exact x.dj j a ha h
  refine ⟨x.own.mono s.sub _ _ _ fun a ha => ?_, fun i a ha hi => nj a ha (s.rn i a hi), fun a ha => ?_⟩
  · obtain ⟨o, e⟩ := old a ha
    rw [e]
    exact s.keep a o e fun i hi => x.dj i a ha hi
  · cases e : F' a with
    | none => rfl
    | some o =>
      rcases s.fn a (by rw [e]; simp) with h | h
      · exact absurd (x.fr a ha) h
      · exact absurd h (nj a ha)
/-- .. is frozen -/
def fzH (F H : Hp) (r : List Addr) : Hp := fun a => if a ∈ r then H a else F a
theorem fz_sub (x : ∀ a, a ∈ r → F a = none) : Sub F (fzH F H r) := fun a o q => by
  unfold fzH
  rw [if_neg]; exact q
  intro h; rw [x a h] at q; cases q
theorem Res.freezeOk (x : Res K F H R v t r) (o : OkF K pa F H σ Γ R) : OkF K pa (fzH F H r) H σ Γ R where
  sub := fun a ob q => by
    unfold fzH at q
    split at q
    · exact q
    · exact o.sub a ob q
  len := o.len
  sl := fun i s h => by
    have q := o.sl i s h
    have sb : Sub F (fzH F H r) := fz_sub x.fr
    cases s with
    | un => exact q
    | v d => exact ⟨q.1, let ⟨v, e, p⟩ := q.2; ⟨v, e, Rp.mono sb _ _ p⟩⟩
    | o j t => exact let ⟨v, e, p, z⟩ := q; ⟨v, e, p.mono sb _ _ _ (fun _ _ => rfl), z⟩
  dj := o.dj
  fr := fun i a h => by
    unfold fzH
    rw [if_neg (fun hr => x.dj i a hr h)]
    exact o.fr i a h
  hs := o.hs
  sys := let ⟨o1, φ, e⟩ := o.sys; ⟨o1, φ, fz_sub x.fr _ _ e⟩
theorem Res.freezeRp (x : Res K F H R v t r) : Rp K (fzH F H r) v t.fz := x.own.rp (fz_sub x.fr) _ _ _ fun a ha => by unfold fzH; rw [if_pos ha]
theorem Res.freezeStp (x : Res K F' H' R' v t r) (s : Stp F H R F' H' R' r) : Stp F H R (fzH F' H' r) H' R' [] where
  sub := s.sub.trans (fz_sub x.fr)
  keep := s.keep
  rn := s.rn
  r1 := fun _ h => nomatch h
  fn := fun a h => by
    unfold fzH at h
    split at h
    · rename_i ha
      exact .inr (s.r1 a ha)
    · exact s.fn a h
theorem Res.leaf (h : Rp K F v d) : Res K F H R v (.leaf d) [] := ⟨.leaf h, fun _ _ q => (nomatch q), fun _ q => (nomatch q)⟩
end

/-! ### arguments, readings -/
/-- an operand at hand: a value; or: what the name i holds when it is used -/
inductive Arg where
  | val (d : D) | slot (i : Nat)
abbrev Xk := Exn → List S → Prop
abbrev SE := List S → (O → List S → Prop) → Xk → Prop
abbrev SA := List S → (Arg → List S → Prop) → Xk → Prop
abbrev SAs := List S → (List Arg → List S → Prop) → Xk → Prop
/-- the operand's value now -/
def rdK (Γ : List S) (a : Arg) (κ : D → Prop) : Prop := match a with
  | .val d => κ d
  | .slot i => match Γ[i]? with
    | some (.v d) => κ d
    | some (.o _ (.ls ds)) => κ (.lst ds)
    | some (.o _ (.leaf d)) => κ d
    | _ => False
/-- .. -/
@[simp] def rdKs (Γ : List S) : List Arg → (List D → Prop) → Prop
  | [], κ => κ []
  | a :: as, κ => rdK Γ a fun d => rdKs Γ as fun ds => κ (d :: ds)
/-- v can be read as d now -/
inductive Bp (K : PySem.W.Frag) (F H : Hp) : V → D → Prop
  | rp {v : V} {d : D} : Rp K F v d → Bp K F H v d
  | lst {a : Addr} {vs : List V} {ds : List D} : H a = some (.lst vs) → RpAll K F vs ds → Bp K F H (.ref a) (.lst ds)
inductive BpAll (K : PySem.W.Frag) (F H : Hp) : List V → List D → Prop
  | nil : BpAll K F H [] []
  | cons {v : V} {vs : List V} {d : D} {ds : List D} : Bp K F H v d → BpAll K F H vs ds → BpAll K F H (v :: vs) (d :: ds)
def ArgOk (K : PySem.W.Frag) (F : Hp) (σ : Sg) (v : V) : Arg → Prop
  | .val d => Rp K F v d
  | .slot i => σ[i]? = some (some v)
inductive ArgsOk (K : PySem.W.Frag) (F : Hp) (σ : Sg) : List V → List Arg → Prop
  | nil : ArgsOk K F σ [] []
  | cons {v : V} {vs : List V} {a : Arg} {as : List Arg} : ArgOk K F σ v a → ArgsOk K F σ vs as → ArgsOk K F σ (v :: vs) (a :: as)
section
variable {K : PySem.W.Frag} {pa : List V} {F F' H H' : Hp} {σ : Sg} {Γ : List S} {R : Nat → List Addr}
theorem ArgOk.mono (h : Sub F F') {v : V} : ∀ {a : Arg}, ArgOk K F σ v a → ArgOk K F' σ v a
  | .val d, q => Rp.mono h d v q
  | .slot _, q => q
theorem ArgsOk.mono (h : Sub F F') : ∀ {vs : List V} {as : List Arg}, ArgsOk K F σ vs as → ArgsOk K F' σ vs as
  | _, _, .nil => .nil
  | _, _, .cons q p => .cons (q.mono h) (ArgsOk.mono h p)
theorem rdK_ok (o : OkF K pa F H σ Γ R) {v : V} {a : Arg} {κ : D → Prop} (q : ArgOk K F σ v a) (h : rdK Γ a κ) : ∃ d, Bp K F H v d ∧ κ d := by
  cases a with
  | val d => exact ⟨d, .rp q, h⟩
  | slot i =>
    have q : σ[i]? = some (some v) := q
    unfold rdK at h
    dsimp only at h
    split at h
    · rename_i d e
      obtain ⟨_, v', e', p⟩ := o.sl i _ e
      rw [q] at e'; cases e'
      exact ⟨d, .rp p, h⟩
    · rename_i j ds e
      obtain ⟨v', e', p, _⟩ := o.sl i _ e
      rw [q] at e'; cases e'
      generalize R i = ri at p
      cases p with
      | ls q1 q2 => exact ⟨_, .lst q1 q2, h⟩
    · rename_i j d e
      obtain ⟨v', e', p, _⟩ := o.sl i _ e
      rw [q] at e'; cases e'
      generalize R i = ri at p
      cases p with
      | leaf q1 => exact ⟨_, .rp q1, h⟩
    · exact h.elim
theorem rdKs_ok (o : OkF K pa F H σ Γ R) : ∀ {vs : List V} {as : List Arg} {κ : List D → Prop}, ArgsOk K F σ vs as → rdKs Γ as κ → ∃ ds, BpAll K F H vs ds ∧ κ ds
  | _, _, _, .nil, h => ⟨[], .nil, h⟩
  | _, _, _, .cons q p, h => by
    obtain ⟨d, b, h⟩ := rdK_ok o q h
    obtain ⟨ds, bs, h⟩ := rdKs_ok o p h
    exact ⟨d :: ds, .cons b bs, h⟩
theorem Bp.rdL {v : V} {ds : List D} (s : Sub F H) (b : Bp K F H v (.lst ds)) : ∃ a vs, v = .ref a ∧ H a = some (.lst vs) ∧ RpAll K F vs ds := by
  cases b with
  | rp q => cases q with | lst q1 q2 => exact ⟨_, _, rfl, s _ _ q1, q2⟩
  | lst q1 q2 => exact ⟨_, _, rfl, q1, q2⟩
theorem Bp.sqL {v : V} {ds : List D} (s : Sub F H) (b : Bp K F H v (.lst ds)) : ∃ a vs, v = .ref a ∧ SqL K H a vs ∧ RpAll K F vs ds :=
  let ⟨a, vs, e, q, r⟩ := b.rdL s; ⟨a, vs, e, .of q, r⟩
theorem Bp.sqT {v : V} {ds : List D} (b : Bp K F H v (.tup ds)) : ∃ a vs, v = .ref a ∧ SqT K F a vs ∧ RpAll K F vs ds := by
  cases b with
  | rp q => cases q with | tup q1 q2 => exact ⟨_, _, rfl, q1, q2⟩
theorem Bp.sqN {v : V} {ds : List D} (b : Bp K F H v (.tun ds)) : ∃ a ob vs, v = .ref a ∧ F a = some (.frz ob (.tup vs)) ∧ ob.dict = none ∧ RpAll K F vs ds := by
  cases b with
  | rp q => cases q with | tun q1 n q2 => exact ⟨_, _, _, rfl, q1, n, q2⟩
theorem Bp.dic {v : V} {ds : List (Key × D)} (b : Bp K F H v (.dic ds)) : ∃ a vs, v = .ref a ∧ Rd F a (.dK vs) ∧ RpKv K F vs ds := by
  cases b with
  | rp q => cases q with | dic q1 q2 => exact ⟨_, _, rfl, q1, q2⟩
theorem Bp.int {v : V} {i : Int} (b : Bp K F H v (.int i)) : v = .int i := by
  cases b with | rp q => cases q; rfl
theorem Bp.bl {v : V} {i : Bool} (b : Bp K F H v (.bl i)) : v = .bl i := by
  cases b with | rp q => cases q; rfl
theorem Bp.str {v : V} {i : Str} (b : Bp K F H v (.str i)) : v = .str i := by
  cases b with | rp q => cases q; rfl
theorem Bp.non {v : V} (b : Bp K F H v .non) : v = .non := by
  cases b with | rp q => cases q; rfl
theorem Bp.ref {v : V} {a : Addr} (b : Bp K F H v (.ref a)) : v = .ref a := by
  cases b with | rp q => cases q; rfl
theorem Bp.ty {v : V} {n : String} (b : Bp K F H v (.ty n)) : v = .ty n := by
  cases b with | rp q => cases q; rfl

/-! ### ends of a step by values -/
/-- a value v at the heap H' that P takes -/
def Fin (K : PySem.W.Frag) (pa : List V) (F H : Hp) (σ : Sg) (Γ : List S) (R : Nat → List Addr) (P : O → Prop) (v : V) (H' : Hp) : Prop :=
  ∃ t F' R' r, OkF K pa F' H' σ Γ R' ∧ Stp F H R F' H' R' r ∧ Res K F' H' R' v t r ∧ P t
variable {P : O → Prop} {v : V} {d : D} {ds : List D} {vs : List V} {p : Addr}
theorem fin_leaf (o : OkF K pa F H σ Γ R) (q : Rp K F v d) (h : P (.leaf d)) : Fin K pa F H σ Γ R P v H := ⟨_, F, R, [], o, .refl, .leaf q, h⟩
theorem Own.upd {x : HO} {t : O} {r : List Addr} (q : Own K F H v t r) (n : H p = none) : Own K F (upd H p x) v t r :=
  q.mono .refl _ _ _ fun a ha => upd_ne fun e => by obtain ⟨_, z⟩ := q.there _ _ _ a ha; rw [e, n] at z; cases z
/-- a new object that nobody changes -/
theorem OkF.newF (o : OkF K pa F H σ Γ R) {x : HO} (n : H p = none) : OkF K pa (upd F p x) (upd H p x) σ Γ R ∧ Stp F H R (upd F p x) (upd H p x) R [] ∧ Sub F (upd F p x) := by
  have nF : F p = none := o.sub.none n
  have sb : Sub F (upd F p x) := fun a y q => (upd_ne fun e => by rw [e, nF] at q; cases q).trans q
  refine ⟨⟨fun a y q => ?_, o.len, fun i s e => ?_, o.dj, fun i a h => ?_, fun i a h => ?_, let ⟨o1, φ, e⟩ := o.sys; ⟨o1, φ, sb _ _ e⟩⟩, ⟨sb, fun a y q _ => ?_, fun i a h => .inr ⟨i, h⟩, fun _ h => (nomatch h), fun a h => ?_⟩, sb⟩
  · by_cases e : a = p
    · subst e; rw [upd_same] at q ⊢; exact q
    · rw [upd_ne e] at q ⊢; exact o.sub a y q
  · have q := o.sl i s e
    cases s with
    | un => exact q
    | v d => exact ⟨q.1, let ⟨v, e, p⟩ := q.2; ⟨v, e, Rp.mono sb _ _ p⟩⟩
    | o j t => exact let ⟨v, e, p, z⟩ := q; ⟨v, e, (p.upd n).mono sb _ _ _ (fun _ _ => rfl), z⟩
  · rw [upd_ne (fun e : a = p => o.hs i a h (by rw [e]; exact n))]; exact o.fr i a h
  · rw [upd_ne (fun e : a = p => o.hs i a h (by rw [e]; exact n))]; exact o.hs i a h
  · rw [upd_ne (fun e => by rw [e, n] at q; cases q)]; exact q
  · by_cases e : a = p
    · subst e; exact .inr (.inl n)
    · rw [upd_ne e] at h; exact .inl h
/-- a new object that will be owned -/
theorem OkF.newH (o : OkF K pa F H σ Γ R) {x : HO} (n : H p = none) : OkF K pa F (upd H p x) σ Γ R ∧ Stp F H R F (upd H p x) R [p] := by
  have nF : F p = none := o.sub.none n
  refine ⟨⟨fun a y q => ?_, o.len, fun i s e => ?_, o.dj, o.fr, fun i a h => ?_, o.sys⟩, ⟨.refl, fun a y q _ => ?_, fun i a h => .inr ⟨i, h⟩, fun a h => ?_, fun a h => .inl h⟩⟩
  · rw [upd_ne (fun e => by rw [e, nF] at q; cases q)]; exact o.sub a y q
  · have q := o.sl i s e
    cases s with
    | un => exact q
    | v d => exact q
    | o j t => exact let ⟨v, e, p, z⟩ := q; ⟨v, e, p.upd n, z⟩
  · rw [upd_ne (fun e : a = p => o.hs i a h (by rw [e]; exact n))]; exact o.hs i a h
  · rw [upd_ne (fun e => by rw [e, n] at q; cases q)]; exact q
  · have e : a = p := by simpa using h
    subst e; exact .inl n
theorem fin_tup (o : OkF K pa F H σ Γ R) (n : H p = none) (q : RpAll K F vs ds) (h : P (.leaf (.tup ds))) : Fin K pa F H σ Γ R P (.ref p) (upd H p (.tup vs)) := by
  obtain ⟨o', s', sb⟩ := o.newF (x := .tup vs) n
  exact ⟨_, _, R, [], o', s', .leaf (.tup (SqT.of upd_same) (RpAll.mono sb _ _ q)), h⟩
theorem fin_ls (o : OkF K pa F H σ Γ R) (n : H p = none) (q : RpAll K F vs ds) (h : P (.ls ds)) : Fin K pa F H σ Γ R P (.ref p) (upd H p (.lst vs)) := by
  obtain ⟨o', s'⟩ := o.newH (x := .lst vs) n
  refine ⟨_, _, R, [p], o', s', ⟨.ls upd_same q, fun i a ha hi => ?_, fun a ha => ?_⟩, h⟩
  · have e : a = p := by simpa using ha
    subst e; exact o.hs i a hi n
  · have e : a = p := by simpa using ha
    subst e; exact o.sub.none n
end
end L3
namespace L3
open PySem PySem.Spec PyProof.Rows L2

/-! ### judgements -/
def RpFs (K : PySem.W.Frag) (F : Hp) (fs : List (Str × V)) (gs : List (Str × D)) : Prop := fs.map (·.1) = gs.map (·.1) ∧ RpAll K F (fs.map (·.2)) (gs.map (·.2))
def ExRep (K : PySem.W.Frag) (F : Hp) (cls : Value) (d : Option Addr) (x : Exn) : Prop :=
  cls = x.cls ∧ match d with
    | none => x.fs = []
    | some dd => ∃ fs, Rd F dd (.xd fs) ∧ RpFs K F fs x.fs
/-- what is wanted of exceptions follows from what is told of data -/
def XL (K : PySem.W.Frag) (pa : List V) (W : WX) (σ : Sg) (F H : Hp) (R : Nat → List Addr) (Ex : Xk) : Prop :=
  ∀ x Γ' F' H' R' cls d, Ex x Γ' → OkF K pa F' H' σ Γ' R' → Stp F H R F' H' R' [] → ExRep K F' cls d x → W cls d σ H'
theorem XL.step {K : PySem.W.Frag} {pa : List V} {W : WX} {σ : Sg} {F H F' H' : Hp} {R R' : Nat → List Addr} {r : List Addr} {Ex : Xk} (x : XL K pa W σ F H R Ex) (s : Stp F H R F' H' R' r) : XL K pa W σ F' H' R' Ex :=
  fun y Γ' F2 H2 R2 cls d e o s2 er => x y Γ' F2 H2 R2 cls d e o (s.trans s2) er
def tE (K : PySem.W.Frag) (pa : List V) (W : WX) (f : SE) : TE := fun σ H Q => ∃ F Γ R Ex Kc, OkF K pa F H σ Γ R ∧ XL K pa W σ F H R Ex ∧ f Γ Kc Ex ∧
  ∀ t Γ', Kc t Γ' → ∀ v F' H' R' r, OkF K pa F' H' σ Γ' R' → Stp F H R F' H' R' r → Res K F' H' R' v t r → Q v H'
def tA (K : PySem.W.Frag) (pa : List V) (W : WX) (g : SA) : TE := fun σ H Q => ∃ F Γ R Ex Kc, OkF K pa F H σ Γ R ∧ XL K pa W σ F H R Ex ∧ g Γ Kc Ex ∧
  ∀ a Γ', Kc a Γ' → ∀ v F' H' R', OkF K pa F' H' σ Γ' R' → Stp F H R F' H' R' [] → ArgOk K F' σ v a → Q v H'
def tAs (K : PySem.W.Frag) (pa : List V) (W : WX) (g : SAs) : TA := fun σ H Q => ∃ F Γ R Ex Kc, OkF K pa F H σ Γ R ∧ XL K pa W σ F H R Ex ∧ g Γ Kc Ex ∧
  ∀ as Γ', Kc as Γ' → ∀ vs F' H' R', OkF K pa F' H' σ Γ' R' → Stp F H R F' H' R' [] → ArgsOk K F' σ vs as → Q vs H'
structure EJ (X : Cx) (pa : List V) (e : Expr) (f : SE) : Prop where
  run : ∀ W, Takes X W → PE X e (tE X.K pa W f)
structure AJ (X : Cx) (pa : List V) (e : Expr) (g : SA) : Prop where
  run : ∀ W, Takes X W → PE X e (tA X.K pa W g)
structure AsJ (X : Cx) (pa : List V) (es : List Expr) (g : SAs) : Prop where
  run : ∀ W, Takes X W → PA X es (tAs X.K pa W g)

theorem PE.imp {X : Cx} {e : Expr} {t t' : TE} (h : PE X e t) (i : ∀ σ H Q, t' σ H Q → t σ H Q) : PE X e t' := ⟨fun pins s σ H Q I q => h.run pins s σ H Q I (i σ H Q q)⟩
theorem PT.imp {X : Cx} {e : Expr} {t t' : TT} (h : PT X e t) (i : ∀ σ H Q, t' σ H Q → t σ H Q) : PT X e t' := ⟨fun pins s σ H Q I q => h.run pins s σ H Q I (i σ H Q q)⟩
theorem PA.imp {X : Cx} {e : List Expr} {t t' : TA} (h : PA X e t) (i : ∀ σ H Q, t' σ H Q → t σ H Q) : PA X e t' := ⟨fun pos pins s σ H Q I q => h.run pos pins s σ H Q I (i σ H Q q)⟩
theorem PS.imp {X : Cx} {e : Stmt} {t t' : TS} (h : PS X e t) (i : ∀ D σ H, t' D σ H → t D σ H) : PS X e t' := ⟨fun pins s σ H D I q => h.run pins s σ H D I (i D σ H q)⟩
theorem PSs.imp {X : Cx} {e : List Stmt} {t t' : TS} (h : PSs X e t) (i : ∀ D σ H, t' D σ H → t D σ H) : PSs X e t' := ⟨fun pins s σ H D I q => h.run pins s σ H D I (i D σ H q)⟩

section
variable {X : Cx} {pa : List V} {pos : Pos} {a b c : Expr} {es : List Expr} {f g h : SE} {ga gb gc : SA} {gs : SAs}

/-! ### operands -/
@[simp] def aE (f : SE) : SA := fun Γ κ Ex => f Γ (fun t Γ' => κ (.val t.fz) Γ') Ex
/-- any expression, as an operand: its value is kept as it is -/
theorem aj_e (hf : EJ X pa a f) : AJ X pa a (aE f) := ⟨fun W tk => PE.imp (hf.run W tk) fun σ H Q ⟨F, Γ, R, Ex, Kc, o, xl, q, k⟩ =>
  ⟨F, Γ, R, Ex, _, o, xl, q, fun t Γ' h1 v F' H' R' r o' s' x' => k _ _ h1 v (fzH F' H' r) H' R' (x'.freezeOk o') (x'.freezeStp s') x'.freezeRp⟩⟩
@[simp] def aV (i : Nat) : SA := fun Γ κ _ => (∃ s, Γ[i]? = some s ∧ s ≠ .un) ∧ κ (.slot i) Γ
theorem slot_there {K : PySem.W.Frag} {F H : Hp} {σ : Sg} {Γ : List S} {R : Nat → List Addr} {i : Nat} (o : OkF K pa F H σ Γ R) (h : ∃ s, Γ[i]? = some s ∧ s ≠ .un) : ∃ v, σ[i]? = some (some v) := by
  obtain ⟨s, e, n⟩ := h
  have q := o.sl i s e
  cases s with
  | un => exact absurd rfl n
  | v d => exact let ⟨_, v, e, _⟩ := q; ⟨v, e⟩
  | o j t => exact let ⟨v, e, _⟩ := q; ⟨v, e⟩
/-- a name, as an operand -/
theorem aj_v {i : Nat} {x : Str} (hp : PE X (.Name x pos) (tVar i)) : AJ X pa (.Name x pos) (aV i) := ⟨fun W tk => PE.imp hp fun σ H Q ⟨F, Γ, R, Ex, Kc, o, xl, ⟨q1, q2⟩, k⟩ => by
  obtain ⟨v, e⟩ := slot_there o q1
  exact ⟨v, e, k _ _ q2 v F H R o .refl e⟩⟩

@[simp] def aNil : SAs := fun Γ κ _ => κ [] Γ
@[simp] def aCons (g : SA) (gs : SAs) : SAs := fun Γ κ Ex => g Γ (fun a Γ1 => gs Γ1 (fun as Γ2 => κ (a :: as) Γ2) Ex) Ex
theorem asj_nil : AsJ X pa [] aNil := ⟨fun W tk => PA.imp pa_nil fun σ H Q ⟨F, Γ, R, Ex, Kc, o, xl, q, k⟩ => k _ _ q [] F H R o .refl .nil⟩
theorem asj_cons (ha : AJ X pa a ga) (hs : AsJ X pa es gs) (hst : starEach (a :: es) X.env = (false, eval a X.env) :: starEach es X.env := by rfl) : AsJ X pa (a :: es) (aCons ga gs) := ⟨fun W tk =>
  PA.imp (pa_cons (ha.run W tk) (hs.run W tk) hst) fun σ H Q ⟨F, Γ, R, Ex, Kc, o, xl, q, k⟩ =>
    ⟨F, Γ, R, Ex, _, o, xl, q, fun y Γ1 h1 v F1 H1 R1 o1 s1 a1 => ⟨F1, Γ1, R1, Ex, _, o1, xl.step s1, h1, fun ys Γ2 h2 vs F2 H2 R2 o2 s2 a2 =>
      k _ _ h2 _ F2 H2 R2 o2 (s1.trans s2) (.cons (a1.mono s2.sub) a2)⟩⟩⟩

/-! ### names, constants -/
def sVar (i : Nat) : SE := fun Γ κ _ => match Γ[i]? with
  | some (.v d) => κ (.leaf d) Γ
  | some (.o none t) => κ (.leaf t.fz) (Γ.set i (.v t.fz))
  | _ => False
/-- the name i gets the value v, which is d -/
theorem OkF.setV {K : PySem.W.Frag} {F H : Hp} {σ : Sg} {Γ : List S} {R : Nat → List Addr} {i : Nat} {v : V} {d : D} (o : OkF K pa F H σ Γ R) (q : Rp K F v d) :
    OkF K pa F H (σ.set i (some v)) (Γ.set i (.v d)) (fun j => if j = i then [] else R j) := by
  refine ⟨o.sub, by rw [List.length_set, List.length_set, o.len], fun j s e => ?_, fun j k a h1 h2 => ?_, fun j a h => ?_, fun j a h => ?_, o.sys⟩
  · by_cases hj : j = i
    · subst hj
      by_cases hl : j < Γ.length
      · rw [List.getElem?_set_self hl] at e
        cases e
        rw [List.getElem?_set_self (by rw [← o.len]; exact hl)]
        show SlotOk K pa F H _ (if j = j then [] else R j) _
        rw [if_pos rfl]
        exact ⟨rfl, v, rfl, q⟩
      · rw [List.getElem?_eq_none (by rw [List.length_set]; omega)] at e; cases e
    · rw [List.getElem?_set_ne (Ne.symm hj)] at e ⊢
      show SlotOk K pa F H _ (if j = i then [] else R j) _
      rw [if_neg hj]
      exact o.sl j s e
  · try dsimp only at h1 h2
    split at h1
    · cases h1
    · split at h2
      · cases h2
      · exact o.dj j k a h1 h2
  · try dsimp only at h
    split at h
    · cases h
    · exact o.fr j a h
  · try dsimp only at h
    split at h
    · cases h
    · exact o.hs j a h
theorem set_same {α : Type} : ∀ {l : List α} {i : Nat} {x : α}, l[i]? = some x → l.set i x = l
  | [], _, _, e => by simp at e
  | y :: ys, 0, x, e => by simp at e; subst e; rfl
  | y :: ys, i + 1, x, e => by rw [List.set_cons_succ, set_same (l := ys) (by simpa using e)]
theorem Stp.dropR {F H F' H' : Hp} {R R' R'' : Nat → List Addr} {r : List Addr} (s : Stp F H R F' H' R' r) (h : ∀ i a, a ∈ R'' i → a ∈ R' i) : Stp F H R F' H' R'' r := ⟨s.sub, s.keep, fun i a q => s.rn i a (h i a q), s.r1, s.fn⟩
theorem ej_var {i : Nat} {x : Str} (hp : PE X (.Name x pos) (tVar i)) : EJ X pa (.Name x pos) (sVar i) := ⟨fun W tk => PE.imp hp fun σ H Q ⟨F, Γ, R, Ex, Kc, o, xl, q, k⟩ => by
  unfold sVar at q
  split at q
  · rename_i d e
    obtain ⟨_, v, e', p⟩ := o.sl i _ e
    exact ⟨v, e', k _ _ q v F H R [] o .refl (.leaf p)⟩
  · rename_i t e
    obtain ⟨v, e', p, _⟩ := o.sl i _ e
    -- the slot is emptied, the thing frozen
    have o1 : OkF X.K pa F H σ (Γ.set i .un) (fun j => if j = i then [] else R j) := by
      refine ⟨o.sub, by rw [List.length_set, o.len], fun j s e => ?_, fun j k a h1 h2 => ?_, fun j a h => ?_, fun j a h => ?_, o.sys⟩
      · by_cases hj : j = i
        · subst hj
          by_cases hl : j < Γ.length
          · rw [List.getElem?_set_self hl] at e
            cases e
            show (if j = j then [] else R j) = []
            rw [if_pos rfl]
          · rw [List.getElem?_eq_none (by rw [List.length_set]; omega)] at e; cases e
        · rw [List.getElem?_set_ne (Ne.symm hj)] at e
          show SlotOk X.K pa F H _ (if j = i then [] else R j) _
          rw [if_neg hj]
          exact o.sl j s e
      · try dsimp only at h1 h2
        split at h1
        · cases h1
        · split at h2
          · cases h2
          · exact o.dj j k a h1 h2
      · try dsimp only at h
        split at h
        · cases h
        · exact o.fr j a h
      · try dsimp only at h
        split at h
        · cases h
        · exact o.hs j a h
    have x1 : Res X.K F H (fun j => if j = i then [] else R j) v t (R i) := ⟨p, fun j a ha hj => by
      try dsimp only at hj
      split at hj
      · cases hj
      · rename_i hji; exact hji (o.dj _ _ a hj ha), fun a ha => o.fr i a ha⟩
    have o2 := x1.freezeOk o1
    have r2 := x1.freezeRp
    have s1 : Stp F H R F H (fun j => if j = i then [] else R j) (R i) := (Stp.refl.dropR (R'' := fun j => if j = i then [] else R j) fun j a h => by
      try dsimp only at h
      split at h
      · cases h
      · exact h).withR fun a ha => .inr ⟨i, ha⟩
    have s2 := x1.freezeStp s1
    have o3 := o2.setV (i := i) r2
    rw [List.set_set, set_same e'] at o3
    refine ⟨v, e', k _ _ q v _ H _ [] o3 (s2.dropR fun j a h => ?_) (.leaf r2)⟩
    by_cases hj : j = i
    · rw [if_pos hj] at h; cases h
    · rw [if_neg hj] at h; exact h
  · exact q.elim⟩
@[simp] def sC (d : D) : SE := fun Γ κ _ => κ (.leaf d) Γ
theorem ej_c {v : V} {d : D} (hp : PE X a (tC v)) (q : ∀ F, Rp X.K F v d) : EJ X pa a (sC d) := ⟨fun W tk => PE.imp hp fun σ H Q ⟨F, Γ, R, Ex, Kc, o, xl, h, k⟩ => k _ _ h v F H R [] o .refl (.leaf (q F))⟩
theorem ej_int {i j} : EJ X pa (.Constant (.int i) j pos) (sC (.int i)) := ej_c pe_int fun _ => .int i
theorem ej_bl {i j} : EJ X pa (.Constant (.bool i) j pos) (sC (.bl i)) := ej_c pe_bl fun _ => .bl i
theorem ej_non {j} : EJ X pa (.Constant .none j pos) (sC .non) := ej_c pe_non fun _ => .non
theorem ej_str {i j} : EJ X pa (.Constant (.str i) j pos) (sC (.str i)) := ej_c pe_str fun _ => .str i

/-! ### operations by values -/
abbrev K2 := D → D → (O → Prop) → Prop
/-- the two-place operation r on V is k on data -/
def Op2 (X : Cx) (pa : List V) (r : R2) (k : K2) : Prop := ∀ F H σ Γ R x y a b (P : O → Prop) (Q : VK), OkF X.K pa F H σ Γ R → Bp X.K F H x a → Bp X.K F H y b → k a b P → (∀ v H', Fin X.K pa F H σ Γ R P v H' → Q v H') → r x y H Q
@[simp] def s2 (ga gb : SA) (k : K2) : SE := fun Γ κ Ex => ga Γ (fun a Γ1 => gb Γ1 (fun b Γ2 => rdK Γ2 a fun da => rdK Γ2 b fun db => k da db fun t => κ t Γ2) Ex) Ex
/-- from the reading to tOp -/
theorem tOp_of {W : WX} {r : R2} {k : K2} (hk : Op2 X pa r k) {σ : Sg} {H : Hp} {Q : VK} (h : tE X.K pa W (s2 ga gb k) σ H Q) : tOp r (tA X.K pa W ga) (tA X.K pa W gb) σ H Q := by
  obtain ⟨F, Γ, R, Ex, Kc, o, xl, q, kk⟩ := h
  refine ⟨F, Γ, R, Ex, _, o, xl, q, fun ar Γ1 h1 v F1 H1 R1 o1 s1 a1 => ⟨F1, Γ1, R1, Ex, _, o1, xl.step s1, h1, fun br Γ2 h2 w F2 H2 R2 o2 s2 a2 => ?_⟩⟩
  obtain ⟨da, ba, h2⟩ := rdK_ok o2 (a1.mono s2.sub) h2
  obtain ⟨db, bb, h2⟩ := rdK_ok o2 a2 h2
  exact hk F2 H2 σ Γ2 R2 v w da db _ Q o2 ba bb h2 fun v' H' ⟨t, F', R', r', o', s', x', p⟩ => kk _ _ p v' F' H' R' r' o' ((s1.trans s2).trans s') x'
theorem ej_op {op : Operator} {r : R2} {k : K2} (ho : OpR X (binaryOp op) r) (hk : Op2 X pa r k) (ha : AJ X pa a ga) (hb : AJ X pa b gb) : EJ X pa (.BinOp a op b pos) (s2 ga gb k) := ⟨fun W tk =>
  PE.imp (pe_op ho (ha.run W tk) (hb.run W tk)) fun σ H Q h => tOp_of hk h⟩
theorem ej_cmp {op : CmpOp} {r : R2} {k : K2} (ho : OpR X (compareOp op) r) (hk : Op2 X pa r k) (ha : AJ X pa a ga) (hb : AJ X pa b gb) (hm : behindInMarks op b = false) : EJ X pa (.Compare a [op] [b] pos) (s2 ga gb k) := ⟨fun W tk =>
  PE.imp (pe_cmpR ho (ha.run W tk) (hb.run W tk) hm) fun σ H Q h => tOp_of hk h⟩
theorem ej_ix {r : R2} {k : K2} (ho : IxR X r) (hk : Op2 X pa r k) (ha : AJ X pa a ga) (hb : AJ X pa b gb) (hs : PlainIx b) : EJ X pa (.Subscript a b pos) (s2 ga gb k) := ⟨fun W tk =>
  PE.imp (pe_ix ho (ha.run W tk) (hb.run W tk) hs) fun σ H Q h => tOp_of hk h⟩
theorem Op2.or {r r' : R2} {k k' : K2} (h : Op2 X pa r k) (h' : Op2 X pa r' k') : Op2 X pa (fun x y H Q => r x y H Q ∨ r' x y H Q) (fun a b P => k a b P ∨ k' a b P) :=
  fun F H σ Γ R x y a b P Q o ba bb q fin => q.elim (fun q => .inl (h F H σ Γ R x y a b P Q o ba bb q fin)) fun q => .inr (h' F H σ Γ R x y a b P Q o ba bb q fin)
end
end L3
namespace L3
open PySem PySem.Spec PyProof.Rows L2

/-! ### tests -/
abbrev ST := List S → (Bool → List S → Prop) → Xk → Prop
def tT (K : PySem.W.Frag) (pa : List V) (W : WX) (f : ST) : TT := fun σ H Q => ∃ F Γ R Ex Kc, OkF K pa F H σ Γ R ∧ XL K pa W σ F H R Ex ∧ f Γ Kc Ex ∧
  ∀ b Γ', Kc b Γ' → ∀ F' H' R', OkF K pa F' H' σ Γ' R' → Stp F H R F' H' R' [] → Q b H'
structure TJ (X : Cx) (pa : List V) (e : Expr) (f : ST) : Prop where
  run : ∀ W, Takes X W → PT X e (tT X.K pa W f)
structure WJ (X : Cx) (pa : List V) (e : Expr) (f : ST) : Prop where
  run : ∀ W, Takes X W → PW X e (tT X.K pa W f)
theorem PW.imp {X : Cx} {e : Expr} {t t' : TT} (h : PW X e t) (i : ∀ σ H Q, t' σ H Q → t σ H Q) : PW X e t' := ⟨fun wh pins s σ H Q I q => h.run wh pins s σ H Q I (i σ H Q q)⟩
/-- truth of data -/
def trK (d : D) (κ : Bool → Prop) : Prop := match d with
  | .non => κ false
  | .bl b => κ b
  | .int i => κ (i != 0)
  | .str x => x.length ≤ sizeLine ∧ κ ((x.length : Int) != 0)
  | .tup xs => κ (!xs.isEmpty)
  | .lst xs => κ (!xs.isEmpty)
  | _ => False
section
variable {X : Cx} {pa : List V} {pos : Pos} {a b c e : Expr} {es rest : List Expr} {f g h : SE} {ga gb gc : SA} {gs : SAs} {ft fu : ST} {K : PySem.W.Frag} {F H : Hp} {σ : Sg} {Γ : List S} {R : Nat → List Addr}
theorem RpAll.empty {vs : List V} {ds : List D} (r : RpAll K F vs ds) : vs.isEmpty = ds.isEmpty := by cases r <;> rfl
theorem trK_ok (o : OkF K pa F H σ Γ R) {v : V} {d : D} {κ : Bool → Prop} (b : Bp K F H v d) (h : trK d κ) : ∃ k, TruV K v H k ∧ κ k := by
  cases d with
  | non => exact ⟨_, by rw [b.non]; rfl, h⟩
  | bl x => exact ⟨x, by rw [b.bl]; rfl, h⟩
  | int i => exact ⟨_, by rw [b.int]; rfl, h⟩
  | str x => exact ⟨_, by rw [b.str]; exact ⟨h.1, rfl⟩, h.2⟩
  | tup xs =>
    obtain ⟨a, vs, e, q, r⟩ := b.sqT
    exact ⟨_, by rw [e]; exact .inr (.inl ⟨vs, o.sub.sqT q, by rw [r.empty]⟩), h⟩
  | lst xs =>
    obtain ⟨a, vs, e, q, r⟩ := b.sqL o.sub
    exact ⟨_, by rw [e]; exact .inl ⟨vs, q, by rw [r.empty]⟩, h⟩
  | _ => exact h.elim
@[simp] def cTr (g : SA) : ST := fun Γ κ Ex => g Γ (fun a Γ' => rdK Γ' a fun d => trK d fun b => κ b Γ') Ex
/-- any expression whose test is its value's truth -/
theorem tj_tr (ha : AJ X pa a ga) (he : ∀ whole, isTrue a X.env whole = (do let v ← whole; standAt a.pos; holding [v] (truthy v))) : TJ X pa a (cTr ga) := ⟨fun W tk =>
  PT.imp (pt_truth (ha.run W tk) he) fun σ H Q ⟨F, Γ, R, Ex, Kc, o, xl, q, k⟩ => ⟨F, Γ, R, Ex, _, o, xl, q, fun y Γ' h1 v F' H' R' o' s' a' => by
    obtain ⟨d, bp, h2⟩ := rdK_ok o' a' h1
    obtain ⟨kk, h3, h4⟩ := trK_ok o' bp h2
    exact ⟨kk, h3, k _ _ h4 F' H' R' o' s'⟩⟩⟩
/-- a comparison as a test -/
@[simp] def c2 (ga gb : SA) (k : K2) : ST := fun Γ κ Ex => s2 ga gb k Γ (fun t Γ' => ∃ b, t = .leaf (.bl b) ∧ κ b Γ') Ex
theorem tE_test {W : WX} {f : SE} {σ : Sg} {H : Hp} {Q : Bool → Hp → Prop} (h : tT K pa W (fun Γ κ Ex => f Γ (fun t Γ' => ∃ b, t = .leaf (.bl b) ∧ κ b Γ') Ex) σ H Q) : tE K pa W f σ H (fun x H' => ∃ k, x = .bl k ∧ Q k H') := by
  obtain ⟨F, Γ, R, Ex, Kc, o, xl, q, k⟩ := h
  refine ⟨F, Γ, R, Ex, _, o, xl, q, fun t Γ' ⟨b, e, h1⟩ v F' H' R' r o' s' x' => ?_⟩
  subst e
  have q := x'.own
  cases q with
  | leaf q => cases q; exact ⟨b, rfl, k _ _ h1 F' H' R' o' s'⟩
theorem tj_cmp {op : CmpOp} {r : R2} {k : K2} (ho : OpR X (compareOp op) r) (hk : Op2 X pa r k) (ha : AJ X pa a ga) (hb : AJ X pa b gb) (hm : behindInMarks op b = false) : TJ X pa (.Compare a [op] [b] pos) (c2 ga gb k) := ⟨fun W tk =>
  PT.imp (pt_cmpR ho (ha.run W tk) (hb.run W tk) hm) fun σ H Q h => tOp_of hk (tE_test h)⟩
/-- a < b < c -/
@[simp] def sChain (ga gb gc : SA) (k k' : K2) : SE := fun Γ κ Ex => ga Γ (fun a Γ1 => gb Γ1 (fun b Γ2 => rdK Γ2 a fun da => rdK Γ2 b fun db => k da db fun t => ∃ y, t = .leaf (.bl y) ∧
  if y = true then gc Γ2 (fun c Γ3 => rdK Γ3 b fun db => rdK Γ3 c fun dc => k' db dc fun t => κ t Γ3) Ex else κ (.leaf (.bl false)) Γ2) Ex) Ex
theorem tChain_of {W : WX} {r r' : R2} {k k' : K2} (hk : Op2 X pa r k) (hk' : Op2 X pa r' k') {σ : Sg} {H : Hp} {Q : VK} (h : tE X.K pa W (sChain ga gb gc k k') σ H Q) : tChain r r' (tA X.K pa W ga) (tA X.K pa W gb) (tA X.K pa W gc) σ H Q := by
  obtain ⟨F, Γ, R, Ex, Kc, o, xl, q, kk⟩ := h
  refine ⟨F, Γ, R, Ex, _, o, xl, q, fun ar Γ1 h1 v F1 H1 R1 o1 s1 a1 => ⟨F1, Γ1, R1, Ex, _, o1, xl.step s1, h1, fun br Γ2 h2 w F2 H2 R2 o2 s2 a2 => ?_⟩⟩
  obtain ⟨da, ba, h2⟩ := rdK_ok o2 (a1.mono s2.sub) h2
  obtain ⟨db, bb, h2⟩ := rdK_ok o2 a2 h2
  refine hk F2 H2 σ Γ2 R2 v w da db _ _ o2 ba bb h2 fun v' H' ⟨t, F', R', r', o', s', x', y, e, h3⟩ => ?_
  subst e
  have q := x'.own
  cases q with
  | leaf q =>
    cases q
    refine ⟨y, rfl, ?_⟩
    cases y with
    | true =>
      rw [if_pos rfl] at h3 ⊢
      refine ⟨F', Γ2, R', Ex, _, o', (xl.step (s1.trans s2)).step s', h3, fun cr Γ3 h4 u F3 H3 R3 o3 s3 a3 => ?_⟩
      obtain ⟨db', bb', h4⟩ := rdK_ok o3 (a2.mono (s'.sub.trans s3.sub)) h4
      obtain ⟨dc, bc, h4⟩ := rdK_ok o3 a3 h4
      exact hk' F3 H3 σ Γ3 R3 w u db' dc _ Q o3 bb' bc h4 fun v' H' ⟨t, F', R', r', o', s4, x', p⟩ => kk _ _ p v' F' H' R' r' o' ((((s1.trans s2).trans s').trans s3).trans s4) x'
    | false =>
      rw [if_neg Bool.false_ne_true] at h3 ⊢
      exact kk _ _ h3 _ F' H' R' [] o' (((s1.trans s2).trans s').noR) (.leaf (.bl false))
theorem ej_chain {op op' : CmpOp} {r r' : R2} {k k' : K2} (ho : OpR X (compareOp op) r) (ho' : OpR X (compareOp op') r') (hk : Op2 X pa r k) (hk' : Op2 X pa r' k') (ha : AJ X pa a ga) (hb : AJ X pa b gb) (hc : AJ X pa c gc)
    (hm : lastMarks [op, op'] [b, c] = false := by with_unfolding_all rfl) : EJ X pa (.Compare a [op, op'] [b, c] pos) (sChain ga gb gc k k') := ⟨fun W tk =>
  PE.imp (pe_chain ho ho' (ha.run W tk) (hb.run W tk) (hc.run W tk) hm) fun σ H Q h => tChain_of hk hk' h⟩
@[simp] def cE (f : SE) : ST := fun Γ κ Ex => f Γ (fun t Γ' => ∃ b, t = .leaf (.bl b) ∧ κ b Γ') Ex
theorem tj_chain {op op' : CmpOp} {r r' : R2} {k k' : K2} (ho : OpR X (compareOp op) r) (ho' : OpR X (compareOp op') r') (hk : Op2 X pa r k) (hk' : Op2 X pa r' k') (ha : AJ X pa a ga) (hb : AJ X pa b gb) (hc : AJ X pa c gc)
    (hm : lastMarks [op, op'] [b, c] = false := by with_unfolding_all rfl) : TJ X pa (.Compare a [op, op'] [b, c] pos) (cE (sChain ga gb gc k k')) := ⟨fun W tk =>
  PT.imp (pt_chain ho ho' (ha.run W tk) (hb.run W tk) (hc.run W tk) hm) fun σ H Q h => tChain_of hk hk' (tE_test h)⟩
/-! not, and, or: tests -/
@[simp] def cNot (f : ST) : ST := fun Γ κ Ex => f Γ (fun b Γ' => κ (!b) Γ') Ex
theorem tj_not (ha : TJ X pa a ft) : TJ X pa (.UnaryOp .Not a pos) (cNot ft) := ⟨fun W tk => PT.imp (pt_not (ha.run W tk)) fun σ H Q ⟨F, Γ, R, Ex, Kc, o, xl, q, k⟩ => ⟨F, Γ, R, Ex, _, o, xl, q, fun b Γ' h1 => k _ _ h1⟩⟩
@[simp] def cAnd (f g : ST) : ST := fun Γ κ Ex => f Γ (fun b Γ' => if b = true then g Γ' κ Ex else κ false Γ') Ex
@[simp] def cOr (f g : ST) : ST := fun Γ κ Ex => f Γ (fun b Γ' => if b = true then κ true Γ' else g Γ' κ Ex) Ex
theorem wj_and1 (ha : TJ X pa a ft) : WJ X pa (.BoolOp .And [a] pos) ft := ⟨fun W tk => pw_and1 (ha.run W tk)⟩
theorem wj_or1 (ha : TJ X pa a ft) : WJ X pa (.BoolOp .Or [a] pos) ft := ⟨fun W tk => pw_or1 (ha.run W tk)⟩
theorem wj_and (ha : TJ X pa a ft) (hb : WJ X pa (.BoolOp .And (b :: rest) pos) fu) : WJ X pa (.BoolOp .And (a :: b :: rest) pos) (cAnd ft fu) := ⟨fun W tk => PW.imp (pw_and (ha.run W tk) (hb.run W tk)) fun σ H Q ⟨F, Γ, R, Ex, Kc, o, xl, q, k⟩ =>
  ⟨F, Γ, R, Ex, _, o, xl, q, fun y Γ' h1 F' H' R' o' s' => by
    cases y with
    | true => rw [if_pos rfl] at h1 ⊢; exact ⟨F', Γ', R', Ex, _, o', xl.step s', h1, fun z Γ2 h2 F2 H2 R2 o2 s2 => k _ _ h2 F2 H2 R2 o2 (s'.trans s2)⟩
    | false => rw [if_neg Bool.false_ne_true] at h1 ⊢; exact k _ _ h1 F' H' R' o' s'⟩⟩
theorem wj_or (ha : TJ X pa a ft) (hb : WJ X pa (.BoolOp .Or (b :: rest) pos) fu) : WJ X pa (.BoolOp .Or (a :: b :: rest) pos) (cOr ft fu) := ⟨fun W tk => PW.imp (pw_or (ha.run W tk) (hb.run W tk)) fun σ H Q ⟨F, Γ, R, Ex, Kc, o, xl, q, k⟩ =>
  ⟨F, Γ, R, Ex, _, o, xl, q, fun y Γ' h1 F' H' R' o' s' => by
    cases y with
    | true => rw [if_pos rfl] at h1 ⊢; exact k _ _ h1 F' H' R' o' s'
    | false => rw [if_neg Bool.false_ne_true] at h1 ⊢; exact ⟨F', Γ', R', Ex, _, o', xl.step s', h1, fun z Γ2 h2 F2 H2 R2 o2 s2 => k _ _ h2 F2 H2 R2 o2 (s'.trans s2)⟩⟩⟩
theorem WJ.tj (h : WJ X pa a ft) : TJ X pa a ft := ⟨fun W tk => (h.run W tk).pt⟩
/-! .. as values -/
theorem one_leaf {F H : Hp} {R : Nat → List Addr} {v : V} {b : Bool} {r : List Addr} (x : Res K F H R v (.leaf (.bl b)) r) : v = .bl b ∧ r = [] := by
  have q := x.own
  cases q with
  | leaf q => cases q; exact ⟨rfl, rfl⟩
@[simp] def sAndV (f g : SE) : SE := fun Γ κ Ex => f Γ (fun t Γ' => ∃ b, t = .leaf (.bl b) ∧ if b = true then g Γ' κ Ex else κ (.leaf (.bl false)) Γ') Ex
@[simp] def sOrV (f g : SE) : SE := fun Γ κ Ex => f Γ (fun t Γ' => ∃ b, t = .leaf (.bl b) ∧ if b = true then κ (.leaf (.bl true)) Γ' else g Γ' κ Ex) Ex
@[simp] def sNotV (f : SE) : SE := fun Γ κ Ex => f Γ (fun t Γ' => ∃ b, t = .leaf (.bl b) ∧ κ (.leaf (.bl (!b))) Γ') Ex
theorem ej_one {op : BoolOp} (ha : EJ X pa a f) : EJ X pa (.BoolOp op [a] pos) f := ⟨fun W tk => pe_one (ha.run W tk)⟩
theorem ej_and (ha : EJ X pa a f) (hb : EJ X pa (.BoolOp .And (b :: rest) pos) g) : EJ X pa (.BoolOp .And (a :: b :: rest) pos) (sAndV f g) := ⟨fun W tk => PE.imp (pe_and (ha.run W tk) (hb.run W tk)) fun σ H Q ⟨F, Γ, R, Ex, Kc, o, xl, q, k⟩ =>
  ⟨F, Γ, R, Ex, _, o, xl, q, fun t Γ' ⟨y, e, h1⟩ v F' H' R' r o' s' x' => by
    subst e
    obtain ⟨rfl, rfl⟩ := one_leaf x'
    refine ⟨y, rfl, ?_⟩
    cases y with
    | true => rw [if_pos rfl] at h1 ⊢; exact ⟨F', Γ', R', Ex, _, o', xl.step s', h1, fun z Γ2 h2 w F2 H2 R2 r2 o2 s2 => k _ _ h2 w F2 H2 R2 r2 o2 (s'.trans s2)⟩
    | false => rw [if_neg Bool.false_ne_true] at h1 ⊢; exact k _ _ h1 _ F' H' R' _ o' s' x'⟩⟩
theorem ej_or (ha : EJ X pa a f) (hb : EJ X pa (.BoolOp .Or (b :: rest) pos) g) : EJ X pa (.BoolOp .Or (a :: b :: rest) pos) (sOrV f g) := ⟨fun W tk => PE.imp (pe_or (ha.run W tk) (hb.run W tk)) fun σ H Q ⟨F, Γ, R, Ex, Kc, o, xl, q, k⟩ =>
  ⟨F, Γ, R, Ex, _, o, xl, q, fun t Γ' ⟨y, e, h1⟩ v F' H' R' r o' s' x' => by
    subst e
    obtain ⟨rfl, rfl⟩ := one_leaf x'
    refine ⟨y, rfl, ?_⟩
    cases y with
    | true => rw [if_pos rfl] at h1 ⊢; exact k _ _ h1 _ F' H' R' _ o' s' x'
    | false => rw [if_neg Bool.false_ne_true] at h1 ⊢; exact ⟨F', Γ', R', Ex, _, o', xl.step s', h1, fun z Γ2 h2 w F2 H2 R2 r2 o2 s2 => k _ _ h2 w F2 H2 R2 r2 o2 (s'.trans s2)⟩⟩⟩
theorem ej_not (ha : EJ X pa a f) : EJ X pa (.UnaryOp .Not a pos) (sNotV f) := ⟨fun W tk => PE.imp (pe_not (ha.run W tk)) fun σ H Q ⟨F, Γ, R, Ex, Kc, o, xl, q, k⟩ =>
  ⟨F, Γ, R, Ex, _, o, xl, q, fun t Γ' ⟨y, e, h1⟩ v F' H' R' r o' s' x' => by
    subst e
    obtain ⟨rfl, rfl⟩ := one_leaf x'
    exact ⟨y, rfl, k _ _ h1 _ F' H' R' _ o' s' (.leaf (.bl _))⟩⟩⟩
/-- a if t else b -/
@[simp] def sIf (t : ST) (f g : SE) : SE := fun Γ κ Ex => t Γ (fun b Γ' => if b = true then f Γ' κ Ex else g Γ' κ Ex) Ex
theorem ej_if (hc : TJ X pa c ft) (ha : EJ X pa a f) (hb : EJ X pa b g) : EJ X pa (.IfExp c a b pos) (sIf ft f g) := ⟨fun W tk => PE.imp (pe_ifExp (hc.run W tk) (ha.run W tk) (hb.run W tk)) fun σ H Q ⟨F, Γ, R, Ex, Kc, o, xl, q, k⟩ =>
  ⟨F, Γ, R, Ex, _, o, xl, q, fun y Γ' h1 F' H' R' o' s' => by
    cases y with
    | true => rw [if_pos rfl] at h1 ⊢; exact ⟨F', Γ', R', Ex, _, o', xl.step s', h1, fun z Γ2 h2 w F2 H2 R2 r2 o2 s2 => k _ _ h2 w F2 H2 R2 r2 o2 (s'.trans s2)⟩
    | false => rw [if_neg Bool.false_ne_true] at h1 ⊢; exact ⟨F', Γ', R', Ex, _, o', xl.step s', h1, fun z Γ2 h2 w F2 H2 R2 r2 o2 s2 => k _ _ h2 w F2 H2 R2 r2 o2 (s'.trans s2)⟩⟩⟩

/-! ### one-place operations, n-place calls -/
abbrev K1 := D → (O → Prop) → Prop
abbrev KN := List D → (O → Prop) → Prop
def Op1 (X : Cx) (pa : List V) (r : V → Hp → VK → Prop) (k : K1) : Prop := ∀ F H σ Γ R x a (P : O → Prop) (Q : VK), OkF X.K pa F H σ Γ R → Bp X.K F H x a → k a P → (∀ v H', Fin X.K pa F H σ Γ R P v H' → Q v H') → r x H Q
def OpN (X : Cx) (pa : List V) (r : List V → Hp → VK → Prop) (k : KN) : Prop := ∀ F H σ Γ R xs ds (P : O → Prop) (Q : VK), OkF X.K pa F H σ Γ R → BpAll X.K F H xs ds → k ds P → (∀ v H', Fin X.K pa F H σ Γ R P v H' → Q v H') → r xs H Q
@[simp] def s1 (ga : SA) (k : K1) : SE := fun Γ κ Ex => ga Γ (fun a Γ1 => rdK Γ1 a fun da => k da fun t => κ t Γ1) Ex
@[simp] def sN (gs : SAs) (k : KN) : SE := fun Γ κ Ex => gs Γ (fun as Γ1 => rdKs Γ1 as fun ds => k ds fun t => κ t Γ1) Ex
theorem ej_un {op : UnaryOp} {r : V → Hp → VK → Prop} {k : K1} (ho : UnR X (unaryOp op) r) (hk : Op1 X pa r k) (ha : AJ X pa a ga) : EJ X pa (.UnaryOp op a pos) (s1 ga k) := ⟨fun W tk =>
  PE.imp (pe_un ho (ha.run W tk)) fun σ H Q ⟨F, Γ, R, Ex, Kc, o, xl, q, kk⟩ => ⟨F, Γ, R, Ex, _, o, xl, q, fun ar Γ1 h1 v F1 H1 R1 o1 s1 a1 => by
    obtain ⟨da, ba, h1⟩ := rdK_ok o1 a1 h1
    exact hk F1 H1 σ Γ1 R1 v da _ Q o1 ba h1 fun v' H' ⟨t, F', R', r', o', s', x', p⟩ => kk _ _ p v' F' H' R' r' o' (s1.trans s') x'⟩⟩
theorem tN_of {W : WX} {r : List V → Hp → VK → Prop} {k : KN} (hk : OpN X pa r k) {σ : Sg} {H : Hp} {Q : VK} (h : tE X.K pa W (sN gs k) σ H Q) : tAs X.K pa W gs σ H fun vs H1 => r vs H1 Q := by
  obtain ⟨F, Γ, R, Ex, Kc, o, xl, q, kk⟩ := h
  refine ⟨F, Γ, R, Ex, _, o, xl, q, fun ar Γ1 h1 vs F1 H1 R1 o1 s1 a1 => ?_⟩
  obtain ⟨ds, bs, h1⟩ := rdKs_ok o1 a1 h1
  exact hk F1 H1 σ Γ1 R1 vs ds _ Q o1 bs h1 fun v' H' ⟨t, F', R', r', o', s', x', p⟩ => kk _ _ p v' F' H' R' r' o' (s1.trans s') x'
theorem ej_callB {id : String} {x : Str} {p : Pos} {r : List V → Hp → VK → Prop} {k : KN} (hc : CallR X (.builtin id) r) (hk : OpN X pa r k) (hg : Gl X x) (hm : X.mg x = none) (hv : bootBuiltins x = some (.builtin id)) (ha : AsJ X pa (a :: es) gs) (hn : x ≠ "__name__" := by decide) (hdb : (x == ("__debug__" : Str)) = false := by decide)
    (he : starEach (a :: es) X.env = (false, eval a X.env) :: starEach es X.env := by rfl) (hpl : (backTo pos (starEach es X.env)).any (·.1) = false := by rfl) : EJ X pa (.Call (.Name x p) (a :: es) [] pos) (sN gs k) := ⟨fun W tk =>
  PE.imp (pe_callB hc hg hm hv (ha.run W tk) hn hdb he hpl) fun σ H Q h => tN_of hk h⟩
theorem ej_callTy {T : String} {x : Str} {p : Pos} {r : List V → Hp → VK → Prop} {k : KN} (hc : CallR X (.type T) r) (hk : OpN X pa r k) (hg : Gl X x) (hm : X.mg x = none) (hv : bootBuiltins x = some (.type T)) (ha : AsJ X pa (a :: es) gs) (hn : x ≠ "__name__" := by decide) (hdb : (x == ("__debug__" : Str)) = false := by decide)
    (he : starEach (a :: es) X.env = (false, eval a X.env) :: starEach es X.env := by rfl) (hpl : (backTo pos (starEach es X.env)).any (·.1) = false := by rfl) : EJ X pa (.Call (.Name x p) (a :: es) [] pos) (sN gs k) := ⟨fun W tk =>
  PE.imp (pe_callTy hc hg hm hv (ha.run W tk) hn hdb he hpl) fun σ H Q h => tN_of hk h⟩
/-! displays -/
theorem bpall_rp {vs : List V} {ds : List D} (h : BpAll K F H vs ds) : vs.length = ds.length := by
  induction h with
  | nil => rfl
  | cons _ _ ih => rw [List.length_cons, List.length_cons, ih]
/-- the operands as values: a name that owns a thing is no operand of a display (sVar freezes it) -/
@[simp] def vals : List Arg → (List D → Prop) → Prop
  | [], κ => κ []
  | .val d :: as, κ => vals as fun ds => κ (d :: ds)
  | .slot _ :: _, _ => False
theorem vals_ok : ∀ {vs : List V} {as : List Arg} {κ : List D → Prop}, ArgsOk K F σ vs as → vals as κ → ∃ ds, RpAll K F vs ds ∧ κ ds
  | _, _, _, .nil, h => ⟨[], .nil, h⟩
  | _, .val d :: _, _, .cons q p, h => by
    obtain ⟨ds, bs, h⟩ := vals_ok (κ := fun ds => _) p h
    exact ⟨d :: ds, .cons q bs, h⟩
  | _, .slot _ :: _, _, .cons q p, h => h.elim
@[simp] def sTup (gs : SAs) : SE := fun Γ κ Ex => gs Γ (fun as Γ1 => vals as fun ds => ds.length ≤ sizeLine ∧ κ (.leaf (.tup ds)) Γ1) Ex
@[simp] def sLst (gs : SAs) : SE := fun Γ κ Ex => gs Γ (fun as Γ1 => vals as fun ds => ds.length ≤ sizeLine ∧ κ (.ls ds) Γ1) Ex
theorem ej_tup {n : Nat} (ha : AsJ X pa es gs) : EJ X pa (.Tuple es n pos) (sTup gs) := ⟨fun W tk => PE.imp (pe_tup (ha.run W tk)) fun σ H Q ⟨F, Γ, R, Ex, Kc, o, xl, q, kk⟩ => ⟨F, Γ, R, Ex, _, o, xl, q, fun ar Γ1 h1 vs F1 H1 R1 o1 s1 a1 => by
  obtain ⟨ds, rp, hl, h2⟩ := vals_ok a1 h1
  refine ⟨by rw [rp.length]; exact hl, fun p hp => ?_⟩
  obtain ⟨t, F', R', r', o', s', x', p⟩ := fin_tup (P := fun t => Kc t Γ1) o1 hp rp h2
  exact kk _ _ p _ F' _ R' r' o' (s1.trans s') x'⟩⟩
theorem ej_lst (ha : AsJ X pa es gs) : EJ X pa (.List es pos) (sLst gs) := ⟨fun W tk => PE.imp (pe_lst (ha.run W tk)) fun σ H Q ⟨F, Γ, R, Ex, Kc, o, xl, q, kk⟩ => ⟨F, Γ, R, Ex, _, o, xl, q, fun ar Γ1 h1 vs F1 H1 R1 o1 s1 a1 => by
  obtain ⟨ds, rp, hl, h2⟩ := vals_ok a1 h1
  refine ⟨by rw [rp.length]; exact hl, fun p hp => ?_⟩
  obtain ⟨t, F', R', r', o', s', x', p⟩ := fin_ls (P := fun t => Kc t Γ1) o1 hp rp h2
  exact kk _ _ p _ F' _ R' r' o' (s1.trans s') x'⟩⟩
end
end L3
namespace L3
open PySem PySem.Spec PyProof.Rows L2

/-! ### statements -/
structure Kn where
  nx : List S → Prop
  rt : O → List S → Prop
  bk : List S → Prop := fun _ => False
  ct : List S → Prop := fun _ => False
abbrev SS := Kn → List S → Xk → Prop
def tS (K : PySem.W.Frag) (pa : List V) (W : WX) (f : SS) : TS := fun D σ H => ∃ F Γ R Ex k, OkF K pa F H σ Γ R ∧ (∀ σ, XL K pa W σ F H R Ex) ∧ f k Γ Ex ∧
  (∀ Γ', k.nx Γ' → ∀ σ' F' H' R', OkF K pa F' H' σ' Γ' R' → Stp F H R F' H' R' [] → D.nx σ' H') ∧
  (∀ t Γ', k.rt t Γ' → ∀ v σ' F' H' R' r, OkF K pa F' H' σ' Γ' R' → Stp F H R F' H' R' r → Res K F' H' R' v t r → D.rt v H') ∧
  (∀ Γ', k.bk Γ' → ∀ σ' F' H' R', OkF K pa F' H' σ' Γ' R' → Stp F H R F' H' R' [] → D.bk σ' H') ∧
  (∀ Γ', k.ct Γ' → ∀ σ' F' H' R', OkF K pa F' H' σ' Γ' R' → Stp F H R F' H' R' [] → D.ct σ' H')
structure SJ (X : Cx) (pa : List V) (st : Stmt) (f : SS) : Prop where
  run : ∀ W, Takes X W → PS X st (tS X.K pa W f)
structure SsJ (X : Cx) (pa : List V) (st : List Stmt) (f : SS) : Prop where
  run : ∀ W, Takes X W → PSs X st (tS X.K pa W f)
section
variable {X : Cx} {pa : List V} {pos : Pos} {a b c e : Expr} {es rest : List Expr} {st : Stmt} {sts bs : List Stmt} {f g h : SE} {ga gb gc : SA} {gs : SAs} {ft fu : ST} {z y : SS} {K : PySem.W.Frag} {F H : Hp} {σ : Sg} {Γ : List S} {R : Nat → List Addr}

@[simp] def zNext : SS := fun k Γ _ => k.nx Γ
@[simp] def zSeq (f g : SS) : SS := fun k Γ Ex => f { k with nx := fun Γ' => g k Γ' Ex } Γ Ex
theorem ssj_nil : SsJ X pa [] zNext := ⟨fun W tk => PSs.imp pss_nil fun D σ H ⟨F, Γ, R, Ex, k, o, xl, q, n, _⟩ => n _ q σ F H R o .refl⟩
theorem ssj_cons (h1 : SJ X pa st z) (h2 : SsJ X pa sts y) : SsJ X pa (st :: sts) (zSeq z y) := ⟨fun W tk => PSs.imp (pss_cons (h1.run W tk) (h2.run W tk)) fun D σ H ⟨F, Γ, R, Ex, k, o, xl, q, n, r, bk, ct⟩ =>
  ⟨F, Γ, R, Ex, _, o, xl, q, fun Γ' h3 σ' F' H' R' o' s' => ⟨F', Γ', R', Ex, k, o', fun σ' => (xl σ').step s', h3, fun Γ2 h4 σ2 F2 H2 R2 o2 s2 => n Γ2 h4 σ2 F2 H2 R2 o2 (s'.trans s2), fun t Γ2 h4 v σ2 F2 H2 R2 r2 o2 s2 x2 => r t Γ2 h4 v σ2 F2 H2 R2 r2 o2 (s'.trans s2) x2,
    fun Γ2 h4 σ2 F2 H2 R2 o2 s2 => bk Γ2 h4 σ2 F2 H2 R2 o2 (s'.trans s2), fun Γ2 h4 σ2 F2 H2 R2 o2 s2 => ct Γ2 h4 σ2 F2 H2 R2 o2 (s'.trans s2)⟩, r, bk, ct⟩⟩
theorem ssj_one (h1 : SJ X pa st z) : SsJ X pa [st] z := ⟨fun W tk => pss_one (h1.run W tk)⟩
@[simp] def zPass : SS := fun k Γ _ => k.nx Γ
theorem sj_pass : SJ X pa (.Pass pos) zPass := ⟨fun W tk => PS.imp ps_pass fun D σ H ⟨F, Γ, R, Ex, k, o, xl, q, n, _⟩ => n _ q σ F H R o .refl⟩
def zBrk : SS := fun k Γ _ => k.bk Γ
def zCnt : SS := fun k Γ _ => k.ct Γ
theorem sj_break : SJ X pa (.Break pos) zBrk := ⟨fun W tk => PS.imp ps_break fun D σ H ⟨F, Γ, R, Ex, k, o, xl, q, _, _, n, _⟩ => n _ q σ F H R o .refl⟩
theorem sj_continue : SJ X pa (.Continue pos) zCnt := ⟨fun W tk => PS.imp ps_continue fun D σ H ⟨F, Γ, R, Ex, k, o, xl, q, _, _, _, n⟩ => n _ q σ F H R o .refl⟩
theorem sj_doc {x j pos'} : SJ X pa (.Expr (.Constant (.str x) j pos) pos') zPass := ⟨fun W tk => PS.imp ps_doc fun D σ H ⟨F, Γ, R, Ex, k, o, xl, q, n, _⟩ => n _ q σ F H R o .refl⟩
@[simp] def zExpr (f : SE) : SS := fun k Γ Ex => f Γ (fun _ Γ' => k.nx Γ') Ex
theorem sj_expr (hf : EJ X pa e f) (hs : swapsWith e none pos.line X.env = pure false := by rfl) : SJ X pa (.Expr e pos) (zExpr f) := ⟨fun W tk => PS.imp (ps_expr (hf.run W tk) hs) fun D σ H ⟨F, Γ, R, Ex, k, o, xl, q, n, _⟩ =>
  ⟨F, Γ, R, Ex, _, o, xl σ, q, fun t Γ' h1 v F' H' R' r o' s' x' => n _ h1 σ F' H' R' o' s'.noR⟩⟩
@[simp] def zRet (f : SE) : SS := fun k Γ Ex => f Γ k.rt Ex
theorem sj_ret (hf : EJ X pa e f) : SJ X pa (.Return (some e) pos) (zRet f) := ⟨fun W tk => PS.imp (ps_ret (hf.run W tk)) fun D σ H ⟨F, Γ, R, Ex, k, o, xl, q, _, n, _⟩ =>
  ⟨F, Γ, R, Ex, _, o, xl σ, q, fun t Γ' h1 v F' H' R' r o' s' x' => n _ _ h1 v σ F' H' R' r o' s' x'⟩⟩
@[simp] def zRetN : SS := fun k Γ _ => k.rt (.leaf .non) Γ
theorem sj_retN : SJ X pa (.Return none pos) zRetN := ⟨fun W tk => PS.imp ps_retN fun D σ H ⟨F, Γ, R, Ex, k, o, xl, q, _, n, _⟩ => n _ _ q .non σ F H R [] o .refl (.leaf .non)⟩
@[simp] def zIf (t : ST) (f g : SS) : SS := fun k Γ Ex => t Γ (fun b Γ' => if b = true then f k Γ' Ex else g k Γ' Ex) Ex
theorem sj_if (hc : TJ X pa c ft) (ha : SsJ X pa sts z) (hb : SsJ X pa bs y) : SJ X pa (.If c sts bs pos) (zIf ft z y) := ⟨fun W tk => PS.imp (ps_if (hc.run W tk) (ha.run W tk) (hb.run W tk)) fun D σ H ⟨F, Γ, R, Ex, k, o, xl, q, n, r, bk, ct⟩ =>
  ⟨F, Γ, R, Ex, _, o, xl σ, q, fun t Γ' h3 F' H' R' o' s' => by
    cases t with
    | true => 
      rw [if_pos rfl] at h3 ⊢
      exact ⟨F', Γ', R', Ex, k, o', fun σ' => (xl σ').step s', h3, fun Γ2 h4 σ2 F2 H2 R2 o2 s2 => n Γ2 h4 σ2 F2 H2 R2 o2 (s'.trans s2), fun t Γ2 h4 v σ2 F2 H2 R2 r2 o2 s2 x2 => r t Γ2 h4 v σ2 F2 H2 R2 r2 o2 (s'.trans s2) x2,
        fun Γ2 h4 σ2 F2 H2 R2 o2 s2 => bk Γ2 h4 σ2 F2 H2 R2 o2 (s'.trans s2), fun Γ2 h4 σ2 F2 H2 R2 o2 s2 => ct Γ2 h4 σ2 F2 H2 R2 o2 (s'.trans s2)⟩
    | false => 
      rw [if_neg Bool.false_ne_true] at h3 ⊢
      exact ⟨F', Γ', R', Ex, k, o', fun σ' => (xl σ').step s', h3, fun Γ2 h4 σ2 F2 H2 R2 o2 s2 => n Γ2 h4 σ2 F2 H2 R2 o2 (s'.trans s2), fun t Γ2 h4 v σ2 F2 H2 R2 r2 o2 s2 x2 => r t Γ2 h4 v σ2 F2 H2 R2 r2 o2 (s'.trans s2) x2,
        fun Γ2 h4 σ2 F2 H2 R2 o2 s2 => bk Γ2 h4 σ2 F2 H2 R2 o2 (s'.trans s2), fun Γ2 h4 σ2 F2 H2 R2 o2 s2 => ct Γ2 h4 σ2 F2 H2 R2 o2 (s'.trans s2)⟩⟩⟩

/-! ### targets -/
abbrev SG := D → List S → (List S → Prop) → Prop
abbrev SGs := List D → List S → (List S → Prop) → Prop
/-- regions only fall away -/
def Le (R' R : Nat → List Addr) : Prop := ∀ i a, a ∈ R' i → a ∈ R i
def tG (K : PySem.W.Frag) (pa : List V) (vs : List Nat) (g : SG) : TG := fun v σ H Q => ∃ F Γ R d κ, OkF K pa F H σ Γ R ∧ Rp K F v d ∧ g d Γ κ ∧ ∀ Γ', κ Γ' → ∀ σ' R', OkF K pa F H σ' Γ' R' → Le R' R → wipe σ' vs = wipe σ vs → Q σ' H
def tGs (K : PySem.W.Frag) (pa : List V) (ws : List Nat) (g : SGs) : TGs := fun vs σ H Q => ∃ F Γ R ds κ, OkF K pa F H σ Γ R ∧ RpAll K F vs ds ∧ g ds Γ κ ∧ ∀ Γ', κ Γ' → ∀ σ' R', OkF K pa F H σ' Γ' R' → Le R' R → wipe σ' ws = wipe σ ws → Q σ' H
structure GJ (X : Cx) (pa : List V) (vs : List Nat) (e : Expr) (g : SG) : Prop where
  run : PG X e (tG X.K pa vs g)
structure GsJ (X : Cx) (pa : List V) (vs : List Nat) (e : List Expr) (g : SGs) : Prop where
  run : PGs X e (tGs X.K pa vs g)
theorem PG.imp {X : Cx} {e : Expr} {t t' : TG} (h : PG X e t) (i : ∀ v σ H Q, t' v σ H Q → t v σ H Q) : PG X e t' := ⟨fun pins s σ H v u Q I r q => h.run pins s σ H v u Q I r (i v σ H Q q)⟩
theorem PGs.imp {X : Cx} {e : List Expr} {t t' : TGs} (h : PGs X e t) (i : ∀ v σ H Q, t' v σ H Q → t v σ H Q) : PGs X e t' := ⟨fun pins s σ H v u Q I r q => h.run pins s σ H v u Q I r (i v σ H Q q)⟩
@[simp] def gN (i : Nat) : SG := fun d Γ κ => κ (Γ.set i (.v d))
theorem wipe_set {σ : Sg} {i : Nat} {x : Option V} : ∀ {vs : List Nat}, i ∈ vs → wipe (σ.set i x) vs = wipe σ vs
  | v :: vs, h => by
    unfold wipe
    by_cases e : i = v
    · subst e
      by_cases m : i ∈ vs
      · rw [wipe_set m]
      · have : ∀ vs : List Nat, i ∉ vs → wipe (σ.set i x) vs = (wipe σ vs).set i x := by
          intro vs
          induction vs with
          | nil => intro _; rfl
          | cons w ws ih =>
            intro n
            unfold wipe
            rw [ih (fun z => n (List.mem_cons_of_mem _ z)), List.set_comm _ _ (fun z => n (by rw [z]; exact List.mem_cons_self))]
        rw [this vs m, List.set_set]
    · rw [wipe_set ((List.mem_cons.mp h).resolve_left e)]
theorem gj_name {i : Nat} {x : Str} {vs : List Nat} (h : PG X (.Name x pos) (gName i)) (hi : i ∈ vs) : GJ X pa vs (.Name x pos) (gN i) := ⟨PG.imp h fun v σ H Q ⟨F, Γ, R, d, κ, o, q, h1, k⟩ => k _ h1 _ _ (o.setV q) (fun j a h => by
  by_cases hj : j = i
  · rw [if_pos hj] at h; cases h
  · rw [if_neg hj] at h; exact h) (wipe_set hi)⟩
@[simp] def gNone : SGs := fun ds Γ κ => ds = [] ∧ κ Γ
@[simp] def gMore (g : SG) (gs : SGs) : SGs := fun ds Γ κ => match ds with | d :: r => g d Γ (fun Γ' => gs r Γ' κ) | [] => False
theorem gsj_nil {ws : List Nat} : GsJ X pa ws [] gNone := ⟨PGs.imp pgs_nil fun vs σ H Q ⟨F, Γ, R, ds, κ, o, q, ⟨e, h1⟩, k⟩ => by
  subst e
  cases q
  exact ⟨rfl, k _ h1 σ R o (fun _ _ h => h) rfl⟩⟩
theorem gsj_cons {g : SG} {gs : SGs} {ws : List Nat} (h1 : GJ X pa ws e g) (h2 : GsJ X pa ws es gs) (hs : (assignEach (e :: es) X.env).map (·.2) = assign e X.env :: (assignEach es X.env).map (·.2) := by rfl) : GsJ X pa ws (e :: es) (gMore g gs) := ⟨PGs.imp (pgs_cons h1.run h2.run hs) fun vs σ H Q ⟨F, Γ, R, ds, κ, o, q, h3, k⟩ => by
  cases q with
  | nil => exact h3.elim
  | cons r rs => exact ⟨_, _, rfl, F, Γ, R, _, _, o, r, h3, fun Γ' h4 σ' R' o' l' w' => ⟨F, Γ', R', _, _, o', rs, h4, fun Γ2 h5 σ2 R2 o2 l2 w2 => k Γ2 h5 σ2 R2 o2 (fun i a h => l' i a (l2 i a h)) (w2.trans w')⟩⟩⟩
@[simp] def gTp (n : Nat) (gs : SGs) : SG := fun d Γ κ => match d with | .tup ds => ds.length = n ∧ gs ds Γ κ | _ => False
theorem gj_tup {gs : SGs} {n m : Nat} {ws : List Nat} (hc : X.calm = true) (h : GsJ X pa ws es gs) (hn : (assignEach es X.env).length = n := by rfl) (hst : (assignEach es X.env).findIdx? (·.1) = none := by rfl) : GJ X pa ws (.Tuple es m pos) (gTp n gs) := ⟨PG.imp (pg_tup hc h.run hn hst) fun v σ H Q ⟨F, Γ, R, d, κ, o, q, h1, k⟩ => by
  cases q with
  | tup q1 q2 => exact ⟨_, _, rfl, o.sub.sqT q1, by rw [q2.length]; exact h1.1, F, Γ, R, _, κ, o, q2, h1.2, k⟩
  | _ => exact h1.elim⟩
theorem Stp.le {F H F' H' : Hp} {R R' R'' : Nat → List Addr} {r : List Addr} (s : Stp F H R F' H' R' r) (l : Le R'' R') : Stp F H R F' H' R'' r := s.dropR l
/-- target = e -/
@[simp] def zAsg (f : SE) (g : SG) : SS := fun k Γ Ex => f Γ (fun t Γ' => g t.fz Γ' k.nx) Ex
theorem tAsg_of {W : WX} {g : SG} {D : Ends} {ws : List Nat} (h : tS K pa W (zAsg f g) D σ H) : tAsg (tE K pa W f) (tG K pa ws g) D σ H := by
  obtain ⟨F, Γ, R, Ex, k, o, xl, q, n, _⟩ := h
  exact ⟨F, Γ, R, Ex, _, o, xl σ, q, fun t Γ' h1 v F' H' R' r o' s' x' => ⟨_, Γ', R', _, _, x'.freezeOk o', x'.freezeRp, h1, fun Γ2 h2 σ2 R2 o2 l2 _ => n Γ2 h2 σ2 _ H' R2 o2 ((x'.freezeStp s').le l2)⟩⟩
theorem sj_asg {tg : Expr} {g : SG} {ws : List Nat} (hf : EJ X pa e f) (hg : GJ X pa ws tg g) (hs : swapsWithSole [tg] e pos.line X.env = pure false := by rfl) (hw : swappedStores [tg] e X.env = pure none := by rfl)
    (h1 : (assignEach [tg] X.env).map (·.2) = [assign tg X.env] := by rfl) : SJ X pa (.Assign [tg] e pos) (zAsg f g) := ⟨fun W tk => PS.imp (ps_asg (hf.run W tk) hg.run hs hw h1) fun D σ H h => tAsg_of h⟩
/-- name = e, the name owns it -/
@[simp] def zOwn (i : Nat) (f : SE) : SS := fun k Γ Ex => f Γ (fun t Γ' => k.nx (Γ'.set i (.o none t))) Ex
theorem OkF.setO {i : Nat} {v : V} {t : O} {r : List Addr} (o : OkF K pa F H σ Γ R) (x : Res K F H R v t r) :
    OkF K pa F H (σ.set i (some v)) (Γ.set i (.o none t)) (fun j => if j = i then r else R j) := by
  refine ⟨o.sub, by rw [List.length_set, List.length_set, o.len], fun j s e => ?_, fun j k a h1 h2 => ?_, fun j a h => ?_, fun j a h => ?_, o.sys⟩
  · by_cases hj : j = i
    · subst hj
      by_cases hl : j < Γ.length
      · rw [List.getElem?_set_self hl] at e
        cases e
        rw [List.getElem?_set_self (by rw [← o.len]; exact hl)]
        show SlotOk K pa F H _ (if j = j then r else R j) _
        rw [if_pos rfl]
        exact ⟨v, rfl, x.own, fun k e => nomatch e⟩
      · rw [List.getElem?_eq_none (by rw [List.length_set]; omega)] at e; cases e
    · rw [List.getElem?_set_ne (Ne.symm hj)] at e ⊢
      show SlotOk K pa F H _ (if j = i then r else R j) _
      rw [if_neg hj]
      exact o.sl j s e
  · by_cases hj : j = i
    · rw [if_pos hj] at h1
      by_cases hk : k = i
      · rw [hj, hk]
      · rw [if_neg hk] at h2; exact absurd h2 (x.dj k a h1)
    · rw [if_neg hj] at h1
      by_cases hk : k = i
      · rw [if_pos hk] at h2; exact absurd h1 (x.dj j a h2)
      · rw [if_neg hk] at h2; exact o.dj j k a h1 h2
  · by_cases hj : j = i
    · rw [if_pos hj] at h; exact x.fr a h
    · rw [if_neg hj] at h; exact o.fr j a h
  · by_cases hj : j = i
    · rw [if_pos hj] at h; obtain ⟨_, z⟩ := x.own.there _ _ _ a h; rw [z]; simp
    · rw [if_neg hj] at h; exact o.hs j a h
theorem Stp.setO {F' H' : Hp} {R' : Nat → List Addr} {r : List Addr} {i : Nat} (s : Stp F H R F' H' R' r) : Stp F H R F' H' (fun j => if j = i then r else R' j) [] :=
  ⟨s.sub, s.keep, fun j a h => by
    by_cases hj : j = i
    · rw [if_pos hj] at h; exact s.r1 a h
    · rw [if_neg hj] at h; exact s.rn j a h, fun _ h => (nomatch h), s.fn⟩
theorem sj_own {i : Nat} {x : Str} {pos' : Pos} (hN : X.N.Nodup) (hi : X.N[i]? = some x) (hx : Loc X.env.scope x) (hf : EJ X pa e f) (hs : swapsWith e (some (.Name x pos')) pos.line X.env = pure false := by rfl) (hfn : X.fn x = true ∨ X.env.scope.names.lookup x = some .local := by first | exact .inl rfl | exact .inr rfl | assumption) :
    SJ X pa (.Assign [.Name x pos'] e pos) (zOwn i f) := ⟨fun W tk => PS.imp (ps_set hN hi hx (hf.run W tk) hs hfn) fun D σ H ⟨F, Γ, R, Ex, k, o, xl, q, n, _⟩ =>
  ⟨F, Γ, R, Ex, _, o, xl σ, q, fun t Γ' h1 v F' H' R' r o' s' x' => n _ h1 _ F' H' _ (o'.setO x') s'.setO⟩⟩
end

/-! ### calls of own functions -/
def jOf (as : List Arg) (i : Nat) : Option Nat := as.findIdx? fun a => match a with | .slot k => k == i | _ => false
def argL (Γ : List S) (as0 : List Arg) : Nat → List Arg → (List S → Prop) → Prop
  | _, [], κ => κ []
  | j, .val d :: r, κ => argL Γ as0 (j + 1) r fun Γa => κ (.v d :: Γa)
  | j, .slot i :: r, κ => match Γ[i]? with
    | some (.v d) => argL Γ as0 (j + 1) r fun Γa => κ (.v d :: Γa)
    | some (.o _ t) => jOf as0 i = some j ∧ argL Γ as0 (j + 1) r fun Γa => κ (.o (some j) t :: Γa)
    | _ => False
def wbS (as : List Arg) (Γo : List S) (i : Nat) (s : S) : S := match s, jOf as i with
  | .o k t, some j => (match Γo[j]? with | some (.o _ t') => .o k t' | _ => .o k t)
  | s, _ => s
def wb (as : List Arg) (Γo Γ : List S) : List S := Γ.mapIdx (wbS as Γo)
/-- as behind a call: who was handed a thing has it still -/
def shp : List S → List S → Prop
  | [], [] => True
  | .o _ _ :: a, .o _ _ :: b => shp a b
  | .v _ :: a, _ :: b => shp a b
  | .un :: a, _ :: b => shp a b
  | _, _ => False
def sCall (fc : SE) (gs : SAs) : SE := fun Γ κ Ex => gs Γ (fun as Γ1 => argL Γ1 as 0 as fun Γa => fc Γa (fun t Γo => shp Γa Γo ∧ κ t (wb as Γo Γ1)) fun x Γo => shp Γa Γo ∧ Ex x (wb as Γo Γ1)) Ex
theorem shp_get : ∀ {Γa Γo : List S} {j : Nat} {k : Option Nat} {t : O}, shp Γa Γo → Γa[j]? = some (.o k t) → ∃ k' t', Γo[j]? = some (.o k' t')
  | [], _, _, _, _, _, e => by simp at e
  | .o _ _ :: a, .o _ _ :: b, 0, _, _, _, e => ⟨_, _, rfl⟩
  | .o _ _ :: a, .o _ _ :: b, j + 1, _, _, h, e => by
    have := shp_get (j := j) (show shp a b from h) (by simpa using e)
    simpa using this
  | .v _ :: a, _ :: b, 0, _, _, h, e => by simp at e
  | .v _ :: a, _ :: b, j + 1, _, _, h, e => by
    have := shp_get (j := j) (show shp a b from by cases ‹S› <;> exact h) (by simpa using e)
    simpa using this
  | .un :: a, _ :: b, 0, _, _, h, e => by simp at e
  | .un :: a, _ :: b, j + 1, _, _, h, e => by
    have := shp_get (j := j) (show shp a b from by cases ‹S› <;> exact h) (by simpa using e)
    simpa using this
  | .o _ _ :: _, .un :: _, _, _, _, h, _ => h.elim
  | .o _ _ :: _, .v _ :: _, _, _, _, h, _ => h.elim
  | .o _ _ :: _, [], _, _, _, h, _ => h.elim
  | .v _ :: _, [], _, _, _, h, _ => h.elim
  | .un :: _, [], _, _, _, h, _ => h.elim
theorem jOf_get {as : List Arg} {i j : Nat} (h : jOf as i = some j) : as[j]? = some (.slot i) := by
  unfold jOf at h
  rw [List.findIdx?_eq_some_iff_getElem] at h
  obtain ⟨hl, hp, _⟩ := h
  rw [List.getElem?_eq_getElem hl]
  cases e : as[j] with
  | val d => rw [e] at hp; cases hp
  | slot k =>
    rw [e] at hp
    have : k = i := by simpa using hp
    rw [this]
def ArgR (Γ : List S) (as0 : List Arg) (j : Nat) (a : Arg) (s : S) : Prop := match a with
  | .val d => s = .v d
  | .slot i => (∃ d, Γ[i]? = some (.v d) ∧ s = .v d) ∨ ∃ q t, Γ[i]? = some (.o q t) ∧ s = .o (some j) t ∧ jOf as0 i = some j
theorem argL_ok {Γ : List S} {as0 : List Arg} : ∀ {r : List Arg} {j : Nat} {κ : List S → Prop}, argL Γ as0 j r κ → ∃ Γa, κ Γa ∧ Γa.length = r.length ∧ ∀ k s, Γa[k]? = some s → ∃ a, r[k]? = some a ∧ ArgR Γ as0 (j + k) a s
  | [], j, κ, h => ⟨[], h, rfl, fun k s e => by simp at e⟩
  | .val d :: r, j, κ, h => by
    obtain ⟨Γa, h1, h2, h3⟩ := argL_ok (r := r) (j := j + 1) h
    refine ⟨_, h1, by simp [h2], fun k s e => ?_⟩
    cases k with
    | zero => simp at e; exact ⟨_, rfl, e.symm⟩
    | succ k =>
      obtain ⟨a, e1, e2⟩ := h3 k s (by simpa using e)
      exact ⟨a, by simpa using e1, by rw [show j + (k + 1) = j + 1 + k by omega]; exact e2⟩
  | .slot i :: r, j, κ, h => by
    unfold argL at h
    split at h
    · rename_i d e0
      obtain ⟨Γa, h1, h2, h3⟩ := argL_ok (r := r) (j := j + 1) h
      refine ⟨_, h1, by simp [h2], fun k s e => ?_⟩
      cases k with
      | zero => simp at e; exact ⟨_, rfl, .inl ⟨d, e0, e.symm⟩⟩
      | succ k =>
        obtain ⟨a, e1, e2⟩ := h3 k s (by simpa using e)
        exact ⟨a, by simpa using e1, by rw [show j + (k + 1) = j + 1 + k by omega]; exact e2⟩
    · rename_i q t e0
      obtain ⟨Γa, h1, h2, h3⟩ := argL_ok (r := r) (j := j + 1) h.2
      refine ⟨_, h1, by simp [h2], fun k s e => ?_⟩
      cases k with
      | zero => simp at e; exact ⟨_, rfl, .inr ⟨q, t, e0, by simpa using e.symm, by simpa using h.1⟩⟩
      | succ k =>
        obtain ⟨a, e1, e2⟩ := h3 k s (by simpa using e)
        exact ⟨a, by simpa using e1, by rw [show j + (k + 1) = j + 1 + k by omega]; exact e2⟩
    · exact h.elim
theorem ArgsOk.length {K : PySem.W.Frag} {F : Hp} {σ : Sg} : ∀ {vs : List V} {as : List Arg}, ArgsOk K F σ vs as → vs.length = as.length
  | _, _, .nil => rfl
  | _, _, .cons _ q => by rw [List.length_cons, List.length_cons, ArgsOk.length q]
theorem ArgsOk.get {K : PySem.W.Frag} {F : Hp} {σ : Sg} : ∀ {vs : List V} {as : List Arg} {i : Nat} {a : Arg}, ArgsOk K F σ vs as → as[i]? = some a → ∃ v, vs[i]? = some v ∧ ArgOk K F σ v a
  | _, _, _, _, .nil, e => by simp at e
  | _, _, 0, _, .cons r _, e => by simp at e; subst e; exact ⟨_, rfl, r⟩
  | _, _, i + 1, _, .cons _ q, e => by
    obtain ⟨v, h1, h2⟩ := ArgsOk.get (i := i) q (by simpa using e)
    exact ⟨v, by simpa using h1, h2⟩
section
variable {K : PySem.W.Frag} {pa : List V} {F H F' H' : Hp} {σ : Sg} {Γ Γa Γo : List S} {R Ro : Nat → List Addr} {as : List Arg} {vs : List V} {r : List Addr}
/-- is the slot's thing handed on -/
def isO (Γ : List S) (i : Nat) : Prop := ∃ q t, Γ[i]? = some (.o q t)
open Classical in
noncomputable def regA (Γ : List S) (R : Nat → List Addr) (as : List Arg) (k : Nat) : List Addr := match as[k]? with
  | some (.slot i) => if jOf as i = some k ∧ isO Γ i then R i else []
  | _ => []
open Classical in
noncomputable def regB (Γ : List S) (R Ro : Nat → List Addr) (as : List Arg) (i : Nat) : List Addr := if isO Γ i then (match jOf as i with | some k => Ro k | none => R i) else R i
theorem regA_mem {k : Nat} {a : Addr} (h : a ∈ regA Γ R as k) : ∃ i, jOf as i = some k ∧ isO Γ i ∧ a ∈ R i := by
  unfold regA at h
  split at h
  · rename_i i e
    by_cases c : jOf as i = some k ∧ isO Γ i
    · rw [if_pos c] at h; exact ⟨i, c.1, c.2, h⟩
    · rw [if_neg c] at h; cases h
  · cases h
theorem call_in (o : OkF K pa F H σ Γ R) (ao : ArgsOk K F σ vs as) (hl : Γa.length = as.length) (hr : ∀ k s, Γa[k]? = some s → ∃ a, as[k]? = some a ∧ ArgR Γ as (0 + k) a s) :
    OkF K vs F H (vs.map some) Γa (regA Γ R as) where
  sub := o.sub
  len := by rw [List.length_map, ao.length, hl]
  sl := fun k s e => by
    obtain ⟨a, ea, ar⟩ := hr k s e
    rw [Nat.zero_add] at ar
    obtain ⟨v, ev, av⟩ := ao.get ea
    have e1 : (vs.map some)[k]? = some (some v) := by rw [List.getElem?_map, ev]; rfl
    rw [e1]
    cases a with
    | val d =>
      have ar : s = .v d := ar
      subst ar
      refine ⟨?_, v, rfl, av⟩
      unfold regA; rw [ea]
    | slot i =>
      have av : σ[i]? = some (some v) := av
      rcases ar with ⟨d, e2, e3⟩ | ⟨q, t, e2, e3, e4⟩
      · subst e3
        obtain ⟨hr0, v', e5, rp⟩ := o.sl i _ e2
        rw [av] at e5; cases e5
        refine ⟨?_, v, rfl, rp⟩
        unfold regA; rw [ea]
        by_cases c : jOf as i = some k ∧ isO Γ i
        · exact (if_pos c).trans hr0
        · exact if_neg c
      · subst e3
        obtain ⟨v', e5, ow, _⟩ := o.sl i _ e2
        rw [av] at e5; cases e5
        have er : regA Γ R as k = R i := by
          unfold regA; rw [ea]
          exact if_pos ⟨e4, q, t, e2⟩
        rw [er]
        exact ⟨v, rfl, ow, fun k' h => by cases h; exact ev⟩
  dj := fun k k' a h1 h2 => by
    obtain ⟨i, j1, _, m1⟩ := regA_mem h1
    obtain ⟨i', j2, _, m2⟩ := regA_mem h2
    have e := o.dj i i' a m1 m2
    subst e
    rw [j1] at j2; exact Option.some.inj j2
  fr := fun k a h => let ⟨i, _, _, m⟩ := regA_mem h; o.fr i a m
  hs := fun k a h => let ⟨i, _, _, m⟩ := regA_mem h; o.hs i a m
  sys := o.sys
theorem wb_get (Γo Γ : List S) (as : List Arg) (i : Nat) : (wb as Γo Γ)[i]? = (Γ[i]?).map (wbS as Γo i) := by
  unfold wb
  rw [List.getElem?_mapIdx]
theorem call_out (o : OkF K pa F H σ Γ R) (ao : ArgsOk K F σ vs as) (hl : Γa.length = as.length) (hr : ∀ k s, Γa[k]? = some s → ∃ a, as[k]? = some a ∧ ArgR Γ as (0 + k) a s)
    (o' : OkF K vs F' H' (vs.map some) Γo Ro) (s' : Stp F H (regA Γ R as) F' H' Ro r) (sh : shp Γa Γo) :
    OkF K pa F' H' σ (wb as Γo Γ) (regB Γ R Ro as) ∧ Stp F H R F' H' (regB Γ R Ro as) r := by
  -- what is not handed on
  have notA : ∀ i a, a ∈ R i → ¬ (isO Γ i ∧ ∃ k, jOf as i = some k) → (∀ k, a ∉ regA Γ R as k) := fun i a ha hn k hk => by
    obtain ⟨i', j1, io, m⟩ := regA_mem hk
    have e := o.dj i i' a ha m
    subst e
    exact hn ⟨io, k, j1⟩
  have keep : ∀ i a, a ∈ R i → ¬ (isO Γ i ∧ ∃ k, jOf as i = some k) → H' a = H a := fun i a ha hn => by
    cases e : H a with
    | none => exact absurd e (o.hs i a ha)
    | some ob => exact s'.keep a ob e (notA i a ha hn)
  have inA : ∀ a, (H a = none ∨ ∃ k, a ∈ regA Γ R as k) → H a = none ∨ ∃ i, a ∈ R i := fun a h => h.imp id fun ⟨k, h⟩ => let ⟨i, _, _, m⟩ := regA_mem h; ⟨i, m⟩
  have regB1 : ∀ i, ¬ (isO Γ i ∧ ∃ k, jOf as i = some k) → regB Γ R Ro as i = R i := fun i hn => by
    unfold regB
    by_cases c : isO Γ i
    · rw [if_pos c]
      cases e : jOf as i with
      | none => rfl
      | some k => exact absurd ⟨c, k, e⟩ hn
    · rw [if_neg c]
  have regB2 : ∀ i k, isO Γ i → jOf as i = some k → regB Γ R Ro as i = Ro k := fun i k c e => by
    unfold regB
    rw [if_pos c, e]
  have bmem : ∀ i a, a ∈ regB Γ R Ro as i → (∃ k, isO Γ i ∧ jOf as i = some k ∧ a ∈ Ro k) ∨ (¬ (isO Γ i ∧ ∃ k, jOf as i = some k) ∧ a ∈ R i) := fun i a h => by
    by_cases c : isO Γ i ∧ ∃ k, jOf as i = some k
    · obtain ⟨c, k, e⟩ := c
      rw [regB2 i k c e] at h
      exact .inl ⟨k, c, e, h⟩
    · rw [regB1 i c] at h
      exact .inr ⟨c, h⟩
  have clash : ∀ i a k, a ∈ Ro k → a ∈ R i → ¬ (isO Γ i ∧ ∃ k, jOf as i = some k) → False := fun i a k h1 h2 hn => by
    rcases s'.rn k a h1 with h | ⟨k', h⟩
    · exact o.hs i a h2 h
    · exact notA i a h2 hn k' h
  refine ⟨⟨o'.sub, by rw [wb, List.length_mapIdx]; exact o.len, fun i s e => ?_, fun i i' a h1 h2 => ?_, fun i a h => ?_, fun i a h => ?_, o'.sys⟩, ⟨s'.sub, fun a ob q n => s'.keep a ob q fun k hk => ?_, fun i a h => ?_, fun a h => inA a (s'.r1 a h), fun a h => (s'.fn a h).imp id (inA a)⟩⟩
  · rw [wb_get] at e
    cases e0 : Γ[i]? with
    | none => rw [e0] at e; cases e
    | some s0 =>
      rw [e0] at e
      have e : wbS as Γo i s0 = s := by simpa using e
      have q0 := o.sl i s0 e0
      cases s0 with
      | un =>
        have : s = .un := by rw [← e]; rfl
        subst this
        rw [regB1 i fun ⟨⟨_, _, z⟩, _⟩ => by rw [e0] at z; cases z]
        exact q0
      | v d =>
        have : s = .v d := by rw [← e]; rfl
        subst this
        rw [regB1 i fun ⟨⟨_, _, z⟩, _⟩ => by rw [e0] at z; cases z]
        exact ⟨q0.1, let ⟨v, a, b⟩ := q0.2; ⟨v, a, Rp.mono s'.sub _ _ b⟩⟩
      | o q t =>
        have io : isO Γ i := ⟨q, t, e0⟩
        obtain ⟨v, e1, ow, ex⟩ := q0
        cases ej : jOf as i with
        | none =>
          have : s = .o q t := by rw [← e]; unfold wbS; rw [ej]
          subst this
          have hn : ¬ (isO Γ i ∧ ∃ k, jOf as i = some k) := fun ⟨_, k, z⟩ => by rw [ej] at z; cases z
          rw [regB1 i hn]
          exact ⟨v, e1, ow.mono s'.sub _ _ _ fun a ha => keep i a ha hn, ex⟩
        | some k =>
          have ea := jOf_get ej
          obtain ⟨v', ev, av⟩ := ao.get ea
          have av : σ[i]? = some (some v') := av
          rw [e1] at av; cases av
          have hk : k < Γa.length := by rw [hl]; exact (List.getElem?_eq_some_iff.mp ea).1
          obtain ⟨a, ea', ar⟩ := hr k Γa[k] (List.getElem?_eq_getElem hk)
          rw [ea] at ea'; cases ea'
          rcases ar with ⟨d, e2, _⟩ | ⟨q', t', e2, e3, _⟩
          · rw [e0] at e2; cases e2
          · obtain ⟨k2, t2, eo⟩ := shp_get (j := k) sh (by rw [List.getElem?_eq_getElem hk, e3])
            have : s = .o q t2 := by rw [← e]; unfold wbS; rw [ej]; dsimp only; rw [eo]
            subst this
            obtain ⟨v2, ev2, ow2, _⟩ := o'.sl k _ eo
            rw [List.getElem?_map, ev] at ev2
            have ev2 : v = v2 := by simpa using ev2
            subst ev2
            rw [regB2 i k io ej]
            exact ⟨v, e1, ow2, ex⟩
  · rcases bmem i a h1 with ⟨k, c, e, m⟩ | ⟨c, m⟩
    · rcases bmem i' a h2 with ⟨k', c', e', m'⟩ | ⟨c', m'⟩
      · have z := o'.dj k k' a m m'
        subst z
        have := (jOf_get e).symm.trans (jOf_get e')
        simpa using this
      · exact (clash i' a k m m' c').elim
    · rcases bmem i' a h2 with ⟨k', c', e', m'⟩ | ⟨c', m'⟩
      · exact (clash i a k' m' m c).elim
      · exact o.dj i i' a m m'
  · rcases bmem i a h with ⟨k, c, e, m⟩ | ⟨c, m⟩
    · exact o'.fr k a m
    · cases z : F' a with
      | none => rfl
      | some ob =>
        rcases s'.fn a (by rw [z]; simp) with h1 | h1 | ⟨k, h1⟩
        · exact absurd (o.fr i a m) h1
        · exact absurd h1 (o.hs i a m)
        · exact absurd h1 (notA i a m c k)
  · rcases bmem i a h with ⟨k, c, e, m⟩ | ⟨c, m⟩
    · exact o'.hs k a m
    · rw [keep i a m c]; exact o.hs i a m
  · obtain ⟨i, _, _, m⟩ := regA_mem hk
    exact n i m
  · rcases bmem i a h with ⟨k, c, e, m⟩ | ⟨c, m⟩
    · exact inA a (s'.rn k a m)
    · exact .inr ⟨i, m⟩
theorem call_res {v : V} {t : O} (o : OkF K pa F H σ Γ R) (s' : Stp F H (regA Γ R as) F' H' Ro r) (x : Res K F' H' Ro v t r) : Res K F' H' (regB Γ R Ro as) v t r := by
  refine ⟨x.own, fun i a ha hi => ?_, x.fr⟩
  unfold regB at hi
  have far : ∀ i, a ∈ R i → ¬ (isO Γ i ∧ ∃ k, jOf as i = some k) → False := fun i m c => by
    rcases s'.r1 a ha with h | ⟨k, h⟩
    · exact o.hs i a m h
    · obtain ⟨i', j1, io, m'⟩ := regA_mem h
      have e := o.dj i i' a m m'
      subst e
      exact c ⟨io, k, j1⟩
  by_cases c : isO Γ i
  · rw [if_pos c] at hi
    cases e : jOf as i with
    | none => rw [e] at hi; exact far i hi fun ⟨_, k, z⟩ => by rw [e] at z; cases z
    | some k => rw [e] at hi; exact x.dj k a ha hi
  · rw [if_neg c] at hi
    exact far i hi fun z => c z.1
end

/-! ### what a def is worth -/
/-- the def's promise: fc over its parameters -/
def spF (K : PySem.W.Frag) (n : Nat) (fc : SE) : Sp := fun vs H Q E => vs.length = n ∧ tE K vs (fun cls d _ H' => E cls d H') fc (vs.map some) H Q
section
variable {X : Cx} {pa : List V} {e : Expr} {es : List Expr} {pos p : Pos} {gs : SAs} {fc : SE} {k n : Nat} {f : Addr} {fd : FuncData} {ps : List Str} {x : Str}
theorem spF_of {W : WX} {σ : Sg} {H : Hp} {Q : VK} (h : tE X.K pa W (sCall fc gs) σ H Q) : tAs X.K pa W gs σ H fun vs H1 => vs.length = n → spF X.K n fc vs H1 Q (fun cls d H' => W cls d σ H') := by
  obtain ⟨F, Γ, R, Ex, Kc, o, xl, q, kk⟩ := h
  refine ⟨F, Γ, R, Ex, _, o, xl, q, fun as Γ1 h1 vs F1 H1 R1 o1 s1 a1 hn => ⟨hn, ?_⟩⟩
  obtain ⟨Γa, h2, hl, hr⟩ := argL_ok h1
  refine ⟨F1, Γa, regA Γ1 R1 as, _, _, call_in o1 a1 hl hr, ?_, h2, fun t Γo ⟨sh, h3⟩ v F' H' R' r o' s' x' => ?_⟩
  · intro y Γo F' H' R' cls d ⟨sh, h3⟩ o' s' er
    obtain ⟨o2, s2⟩ := call_out o1 a1 hl hr o' s' sh
    exact xl y _ F' H' _ cls d h3 o2 (s1.trans s2) er
  · obtain ⟨o2, s2⟩ := call_out o1 a1 hl hr o' s' sh
    exact kk _ _ h3 v F' H' _ r o2 (s1.trans s2) (call_res o1 s' x')
end
end L3
namespace L3
open PySem PySem.Spec PyProof.Rows L2

/-! ### a def's promise, where no repr is under way around the call -/
structure FnG (P : Program) (w : World) (K : PySem.W.Frag) (mg : Str → Option Value) (base : Heap) (k : Nat) (f : Addr) (fd : FuncData) (ps : List Str) (sp : Sp) : Prop where
  len : ∀ vs H Q E, sp vs H Q E → vs.length = ps.length
  run : ∀ (A : Around) (outer : List Env) (s : Shared) (H : Hp) (args : Args) (us : List Value) (vs : List V) (Q : VK) (E : XK), Room k A → A.guards = some [] → Env0 P w K mg base A outer s H →
    BindsTo s fd args (ps.zip us) → Vals vs us → sp vs H Q E → codeAny (model P w) A (.call (.ref f) args) (CR (L2.CX P w) outer P w H s Q E) s
section
variable {P : Program} {w : World} {K : PySem.W.Frag} {mg : Str → Option Value} {base : Heap} {j k : Nat} {f : Addr} {fd : FuncData} {ps : List Str} {sp sp' : Sp}
theorem FnG.mono (G : FnG P w K mg base j f fd ps sp) (h : j ≤ k) : FnG P w K mg base k f fd ps sp :=
  ⟨G.len, fun A outer s H args us vs Q E room => G.run A outer s H args us vs Q E (room.mono h)⟩
theorem FnG.imp (G : FnG P w K mg base k f fd ps sp) (h : ∀ vs H Q E, sp' vs H Q E → sp vs H Q E) : FnG P w K mg base k f fd ps sp' where
  len := fun vs H Q E q => G.len vs H Q E (h vs H Q E q)
  run := fun A outer s H args us vs Q E room gd e0 b r q => G.run A outer s H args us vs Q E room gd e0 b r (h vs H Q E q)
/-- by its body -/
theorem fnG_of {x qual : Str} {st : Stmt} {N : List Str} (G : Fun K x qual st f fd) (S : FnScope N ps (defScope st)) (len : ∀ vs H Q E, sp vs H Q E → vs.length = ps.length)
    (hbody : ∀ (cdv : Value) (A : Around) (outer : List Env) (s : Shared) (H : Hp) (vs : List V) (Q : VK) (E : XK), Room k (A.deeper (envOfC qual (defScope st) s.heap.objs.size f cdv)) → A.guards = some [] → sp vs H Q E →
      ∃ t, PSs (cxOf (L2.CX P w) P w K mg base N qual (defScope st) f cdv A outer s H E) (defBody st) t ∧ t { nx := fun _ H' => Q .non H', rt := Q } (L2.start N vs) H) :
    FnG P w K mg base (k + 1) f fd ps sp := by
  obtain ⟨oc, od, kV, doc, pm, an, cdv, ct, osl, rfl, lk, hcd⟩ := G.ex
  refine ⟨len, ?_⟩
  intro A outer s H args us vs Q E room gd e0 hb rel hsp
  have hvl := len vs H Q E hsp
  -- the written part, the limit stand in the heap
  have up : ∀ b o, base.get? b = some o → s.heap.get? b = some o := fun b o e => (e0.bs b o e).1
  have inK : K.In s.heap := e0.mod.kin.keeps up
  have noLim : s.heap.NoLimit := e0.mod.nolimit.keeps up
  -- each parameter has a place
  have places : ∀ y ∈ ps.zip us, (defScope st).names.lookup y.1 = some .local ∨ ((defScope st).names.lookup y.1 = some .cell ∧ ((cellsFrom (s.heap.objs.size + 1) (defScope st).names []).lookup y.1).isSome = true) := by
    rintro ⟨n, v⟩ hy
    cases S.par n (List.of_mem_zip hy).1 with
    | inl q => exact Or.inl q
    | inr q => exact Or.inr ⟨q, PySem.W.cellsFrom_some _ _ _ (Or.inl q)⟩
  refine codeAny_call_function room.depth (inK f _ lk) rfl S.co S.gen rfl (PySem.W.codeRec_of inK hcd) (hb _ _ _ _ ?_)
  refine wpAny_newFunctionEnv_cells S.kind places ?_
  intro env henv s1 inCall
  subst henv
  refine ⟨noLim.keeps inCall.toInCall.keep, codeAny_func ?_⟩
  obtain ⟨t, ht, hq⟩ := hbody cdv A outer s H vs Q E (room.deeper _) gd hsp
  have I0 := inv_start (CX := L2.CX P w) (P := P) (w := w) (E := E) S room.hd e0 hvl rel inCall
  refine wpAny_mono (ht.run [] s1 _ H _ I0 hq) ?_ fun _ _ q => q
  intro fl s' hs
  match fl, hs with
  | .ret u, ⟨v, σ', H', J, rv, q⟩ => exact ⟨v, H', J.os, J.bare, J.base, J.hok, rv, q⟩
  | .next, ⟨σ', H', J, q⟩ => exact ⟨V.non, H', J.os, J.bare, J.base, J.hok, rfl, q⟩
  | .brk, ⟨_, _, _, q⟩ => exact q.elim
  | .cont, ⟨_, _, _, q⟩ => exact q.elim
end
section
variable {X : Cx} {k : Nat} {f : Addr} {fd : FuncData} {ps : List Str} {sp : Sp} {E : L2.St → XK} {x : Str} {p pos : Pos} {e : Expr} {es : List Expr} {t : TA}
/-- f(e, ..) -/
theorem pe_callG (G : FnG X.prog X.w X.K X.mg X.base k f fd ps sp) (room : Room k X.A) (gd : X.A.guards = some []) (hg : Gl X x) (hm : X.mg x = some (.ref f)) (hk : PySem.W.keepIn X.K (.ref f) = true) (hb : L2.Binds X.K fd ps [])
    (hx : ∀ σ, PassesAt (L2.CX X.prog X.w) X σ (E σ)) (ha : PA X (e :: es) t) (hdb : (x == ("__debug__" : Str)) = false := by decide)
    (he : starEach (e :: es) X.env = (false, eval e X.env) :: starEach es X.env := by rfl) (hpl : (backTo pos (starEach es X.env)).any (·.1) = false := by rfl) :
    PE X (.Call (.Name x p) (e :: es) [] pos) (fun σ H Q => t σ H fun vs H1 => sp vs H1 Q (E σ)) := by
  constructor
  intro pins s σ H Q I h
  refine wpAny_Call_Name_kw (ld_glob I hg hm ?_ hdb)
  refine PySem.W.callWith_K (h₀ := X.base) I.ok.mod.kin hk (thn (ha.run pos pins s σ H _ I h) ?_) he hpl
  rintro us s1 ⟨vs, H1, I1, r, q⟩
  refine ⟨I1.kIn, wpAny_call (codeAny_mono (G.run X.A X.stack s1 H1 ⟨us, []⟩ us vs Q (E σ) room gd I1.env0 ?_ r q) ?_)⟩
  · have hl : (us ++ ([] : List Value)).length = ps.length := by rw [List.append_nil, ← r.length]; exact G.len _ _ _ _ q
    have := hb s1 us I1.kIn hl
    rwa [List.append_nil] at this
  · intro r s' hq
    match r, hq with
    | .error e, hq => exact hx σ pins H1 s1 e s' I1 hq
    | .ok (.ret u), hq => exact I1.after hq
    | .ok .next, hq => exact hq.elim
    | .ok .brk, hq => exact hq.elim
    | .ok .cont, hq => exact hq.elim
end
end L3
namespace L3
open PySem PySem.Spec PyProof.Rows L2

section
variable {X : Cx} {pa : List V} {e : Expr} {es : List Expr} {pos p : Pos} {gs : SAs} {fc : SE} {k n : Nat} {f : Addr} {fd : FuncData} {ps : List Str} {x : Str}
def sCallN (n : Nat) (fc : SE) (gs : SAs) : SE := sCall fc (fun Γ κ Ex => gs Γ (fun as Γ' => as.length = n ∧ κ as Γ') Ex)
theorem ej_call (G : FnG X.prog X.w X.K X.mg X.base k f fd ps (spF X.K n fc)) (hr : Room k X.A) (gd : X.A.guards = some []) (hg : Gl X x) (hm : X.mg x = some (.ref f)) (hk : PySem.W.keepIn X.K (.ref f) = true) (hb : Binds X.K fd ps [])
    (ha : AsJ X pa (e :: es) gs) (hdb : (x == ("__debug__" : Str)) = false := by decide) (he : starEach (e :: es) X.env = (false, eval e X.env) :: starEach es X.env := by rfl) (hpl : (backTo pos (starEach es X.env)).any (·.1) = false := by rfl) :
    EJ X pa (.Call (.Name x p) (e :: es) [] pos) (sCallN n fc gs) := ⟨fun W tk =>
  PE.imp (pe_callG G hr gd hg hm hk hb (fun σ => passAt tk σ) (ha.run W tk) hdb he hpl) fun σ H Q h => by
    have h' := spF_of (n := n) h
    obtain ⟨F, Γ, R, Ex, Kc, o, xl, q, kk⟩ := h'
    exact ⟨F, Γ, R, Ex, _, o, xl, q, fun as Γ' ⟨hl, h1⟩ vs F' H' R' o' s' a' => kk as Γ' h1 vs F' H' R' o' s' a' (by rw [a'.length]; exact hl)⟩⟩
end
/-- behind a body: the parameters' things as they are then -/
@[simp] def outs (Γ' : List S) : Nat → List S → (List S → Prop) → Prop
  | _, [], κ => κ []
  | j, .v d :: r, κ => outs Γ' (j + 1) r fun l => κ (.v d :: l)
  | j, .un :: r, κ => outs Γ' (j + 1) r fun l => κ (.un :: l)
  | j, .o _ _ :: r, κ => match Γ'[j]? with
    | some (.o q t) => q = some j ∧ outs Γ' (j + 1) r fun l => κ (.o (some j) t :: l)
    | _ => False
@[simp] def bodyF (m : Nat) (z : SS) : SE := fun Γa κ Ex => z ⟨fun Γ' => outs Γ' 0 Γa (κ (.leaf .non)), fun t Γ' => outs Γ' 0 Γa (κ t), fun _ => False, fun _ => False⟩ (Γa ++ List.replicate (m - Γa.length) .un) (fun x Γ' => outs Γ' 0 Γa (Ex x))
theorem outs_ok {Γ' : List S} : ∀ {r : List S} {j : Nat} {κ : List S → Prop}, outs Γ' j r κ → ∃ Γo, κ Γo ∧ Γo.length = r.length ∧ ∀ k s, Γo[k]? = some s → (∃ d, s = .v d ∧ r[k]? = some (.v d)) ∨ (s = .un ∧ r[k]? = some .un) ∨ ∃ t q t0, s = .o (some (j + k)) t ∧ Γ'[j + k]? = some (.o (some (j + k)) t) ∧ r[k]? = some (.o q t0)
  | [], j, κ, h => ⟨[], h, rfl, fun k s e => by simp at e⟩
  | .v d :: r, j, κ, h => by
    obtain ⟨Γa, h1, h2, h3⟩ := outs_ok (r := r) (j := j + 1) h
    refine ⟨_, h1, by simp [h2], fun k s e => ?_⟩
    cases k with
    | zero => simp at e; exact .inl ⟨d, e.symm, rfl⟩
    | succ k =>
      have := h3 k s (by simpa using e)
      rw [show j + (k + 1) = j + 1 + k by omega]
      simpa using this
  | .un :: r, j, κ, h => by
    obtain ⟨Γa, h1, h2, h3⟩ := outs_ok (r := r) (j := j + 1) h
    refine ⟨_, h1, by simp [h2], fun k s e => ?_⟩
    cases k with
    | zero => simp at e; exact .inr (.inl ⟨e.symm, rfl⟩)
    | succ k =>
      have := h3 k s (by simpa using e)
      rw [show j + (k + 1) = j + 1 + k by omega]
      simpa using this
  | .o q0 t0 :: r, j, κ, h => by
    unfold outs at h
    split at h
    · rename_i q t e0
      obtain ⟨hq, h⟩ := h
      subst hq
      obtain ⟨Γa, h1, h2, h3⟩ := outs_ok (r := r) (j := j + 1) h
      refine ⟨_, h1, by simp [h2], fun k s e => ?_⟩
      cases k with
      | zero => simp at e; exact .inr (.inr ⟨t, q0, t0, e.symm, e0, rfl⟩)
      | succ k =>
        have := h3 k s (by simpa using e)
        rw [show j + (k + 1) = j + 1 + k by omega]
        simpa using this
    · exact h.elim
section
variable {K : PySem.W.Frag} {F F' H H' : Hp} {Γa Γ' Γo : List S} {R R' : Nat → List Addr} {vs : List V} {σ' : Sg} {r : List Addr}
open Classical in
noncomputable def regO (Γa : List S) (R' : Nat → List Addr) (j : Nat) : List Addr := if isO Γa j then R' j else []
theorem exit_ok (o : OkF K vs F H (vs.map some) Γa R) (o' : OkF K vs F' H' σ' Γ' R') (s' : Stp F H (fun i => if i < Γa.length then R i else []) F' H' R' r) (hl : Γo.length = Γa.length)
    (hr : ∀ k s, Γo[k]? = some s → (∃ d, s = .v d ∧ Γa[k]? = some (.v d)) ∨ (s = .un ∧ Γa[k]? = some .un) ∨ ∃ t q t0, s = .o (some (0 + k)) t ∧ Γ'[0 + k]? = some (.o (some (0 + k)) t) ∧ Γa[k]? = some (.o q t0)) :
    OkF K vs F' H' (vs.map some) Γo (regO Γa R') ∧ Stp F H R F' H' (regO Γa R') r := by
  have le : ∀ i a, a ∈ regO Γa R' i → a ∈ R' i := fun i a h => by
    unfold regO at h
    split at h
    · exact h
    · cases h
  have back : ∀ a, (H a = none ∨ ∃ j, a ∈ (if j < Γa.length then R j else [])) → H a = none ∨ ∃ j, a ∈ R j := fun a h => h.imp id fun ⟨j, h⟩ => by
    by_cases c : j < Γa.length
    · rw [if_pos c] at h; exact ⟨j, h⟩
    · rw [if_neg c] at h; cases h
  refine ⟨⟨o'.sub, by rw [hl, o.len], fun k s e => ?_, fun i j a h1 h2 => o'.dj i j a (le i a h1) (le j a h2), fun i a h => o'.fr i a (le i a h), fun i a h => o'.hs i a (le i a h), o'.sys⟩,
    ⟨s'.sub, fun a ob q n => s'.keep a ob q fun i hi => ?_, fun i a h => back a (s'.rn i a (le i a h)), fun a h => back a (s'.r1 a h), fun a h => (s'.fn a h).imp id (back a)⟩⟩
  · rcases hr k s e with ⟨d, rfl, e1⟩ | ⟨rfl, e1⟩ | ⟨t, q, t0, rfl, e2, e1⟩
    · obtain ⟨_, v, e3, rp⟩ := o.sl k _ e1
      refine ⟨?_, v, e3, Rp.mono s'.sub _ _ rp⟩
      unfold regO
      rw [if_neg]
      rintro ⟨_, _, z⟩
      rw [e1] at z; cases z
    · show regO Γa R' k = []
      unfold regO
      rw [if_neg]
      rintro ⟨_, _, z⟩
      rw [e1] at z; cases z
    · rw [Nat.zero_add] at e2 ⊢
      obtain ⟨v, e3, ow, ex⟩ := o'.sl k _ e2
      have e4 := ex k rfl
      have er : regO Γa R' k = R' k := by unfold regO; exact if_pos ⟨q, t0, e1⟩
      rw [er]
      exact ⟨v, by rw [List.getElem?_map, e4]; rfl, ow, fun k' h => by cases h; exact e4⟩
  · by_cases c : i < Γa.length
    · rw [if_pos c] at hi; exact n i hi
    · rw [if_neg c] at hi; cases hi
theorem Res.le {v : V} {t : O} {R'' : Nat → List Addr} (x : Res K F H R v t r) (l : Le R'' R) : Res K F H R'' v t r := ⟨x.own, fun i a ha hi => x.dj i a ha (l i a hi), x.fr⟩
theorem start_ok {N : List Str} (o : OkF K vs F H (vs.map some) Γa R) (hN : vs.length ≤ N.length) :
    OkF K vs F H (L2.start N vs) (Γa ++ List.replicate (N.length - Γa.length) .un) (fun i => if i < Γa.length then R i else []) := by
  have hl : Γa.length = vs.length := by rw [o.len, List.length_map]
  have le : ∀ i a, a ∈ (if i < Γa.length then R i else []) → a ∈ R i := fun i a h => by
    by_cases c : i < Γa.length
    · rw [if_pos c] at h; exact h
    · rw [if_neg c] at h; cases h
  refine ⟨o.sub, by unfold L2.start; simp [hl], fun i s e => ?_, fun i j a h1 h2 => o.dj i j a (le i a h1) (le j a h2), fun i a h => o.fr i a (le i a h), fun i a h => o.hs i a (le i a h), o.sys⟩
  by_cases c : i < Γa.length
  · rw [List.getElem?_append_left c] at e
    rw [if_pos c]
    have : (L2.start N vs)[i]? = (vs.map some)[i]? := by unfold L2.start; rw [List.getElem?_append_left (by rw [List.length_map, ← hl]; exact c)]
    rw [this]
    exact o.sl i s e
  · rw [List.getElem?_append_right (by omega), List.getElem?_replicate] at e
    split at e
    · cases e; rw [if_neg c]; rfl
    · cases e
end
section
variable {P : Program} {w : World} {K : PySem.W.Frag} {mg : Str → Option Value} {base : Heap}
theorem start_fn {N : List Str} {vs : List V} {n : Nat} {z : SS} {H : Hp} {Q : VK} {E : XK} (hN : n ≤ N.length) (h : spF K n (bodyF N.length z) vs H Q E) :
    tS K vs (fun cls d _ H' => E cls d H') z { nx := fun _ H' => Q .non H', rt := Q } (L2.start N vs) H := by
  obtain ⟨hl, F, Γ, R, Ex, Kc, o, xl, q, kk⟩ := h
  refine ⟨F, _, _, _, _, start_ok o (by omega), fun σ' x Γ' F' H' R' cls d ex o' s' er => ?_, q, fun Γ' h1 σ' F' H' R' o' s' => ?_, fun t Γ' h1 v σ' F' H' R' r o' s' x' => ?_, fun _ h1 => h1.elim, fun _ h1 => h1.elim⟩
  · obtain ⟨Γo, h2, hl2, hr⟩ := outs_ok ex
    obtain ⟨o2, s2⟩ := exit_ok o o' s' hl2 hr
    exact xl x Γo F' H' _ cls d h2 o2 s2 er
  · obtain ⟨Γo, h2, hl2, hr⟩ := outs_ok h1
    obtain ⟨o2, s2⟩ := exit_ok o o' s' hl2 hr
    exact kk _ Γo h2 .non F' H' _ [] o2 s2 (.leaf .non)
  · obtain ⟨Γo, h2, hl2, hr⟩ := outs_ok h1
    obtain ⟨o2, s2⟩ := exit_ok o o' s' hl2 hr
    refine kk _ Γo h2 v F' H' _ r o2 s2 (x'.le fun i a h => ?_)
    unfold regO at h
    split at h
    · exact h
    · cases h
/-- THE RULE: a def of the text by its body -/
theorem fn_L3 {x qual : Str} {st : Stmt} {f : Addr} {fd : FuncData} {N ps : List Str} {k n : Nat} {z : SS} (G : Fun K x qual st f fd) (S : FnScope N ps (defScope st)) (hn : ps.length = n) (hN : n ≤ N.length)
    (hbody : ∀ (cdv : Value) (A : Around) (outer : List Env) (s : Shared) (H : Hp) (vs : List V) (Q : VK) (E : XK), Room k (A.deeper (envOfC qual (defScope st) s.heap.objs.size f cdv)) → A.guards = some [] →
      SsJ (cxOf (L2.CX P w) P w K mg base N qual (defScope st) f cdv A outer s H E) vs (defBody st) z) : FnG P w K mg base (k + 1) f fd ps (spF K n (bodyF N.length z)) :=
  fnG_of G S (fun vs H Q E h => by rw [hn]; exact h.1) fun cdv A outer s H vs Q E hr gd h =>
    ⟨_, (hbody cdv A outer s H vs Q E hr gd).run (fun cls d _ H' => E cls d H') (takes_of rfl rfl rfl rfl), start_fn hN h⟩
/-- another worth: weaker -/
theorem fn_imp {f : Addr} {fd : FuncData} {ps : List Str} {k n : Nat} {fc fc' : SE} (G : FnG P w K mg base k f fd ps (spF K n fc)) (h : ∀ Γ κ Ex, fc' Γ κ Ex → fc Γ κ Ex) : FnG P w K mg base k f fd ps (spF K n fc') :=
  G.imp fun vs H Q E ⟨hl, F, Γ, R, Ex, Kc, o, xl, q, kk⟩ => ⟨hl, F, Γ, R, Ex, Kc, o, xl, h _ _ _ q, kk⟩
end
end L3
namespace L3
open PySem PySem.Spec PyProof.Rows L2

/-! ### what is walked -/
/-- J yields the ds, as long as F stands -/
def ItD (K : PySem.W.Frag) (J : It) (F : Hp) (ds : List D) : Prop := ∀ i (F1 H : Hp) σ Γ R pa, OkF K pa F1 H σ Γ R → Sub F F1 →
  (∀ d, ds[i]? = some d → J.go i H ∧ ∀ x H', J.yld i H x H' → ∃ F', OkF K pa F' H' σ Γ R ∧ Stp F1 H R F' H' R [] ∧ Rp K F' x d) ∧ (ds.length = i → J.stop i H)
abbrev SI := List S → (List D → List S → Prop) → Xk → Prop
def tI (K : PySem.W.Frag) (pa : List V) (W : WX) (h : SI) : TI := fun σ H Q => ∃ F Γ R Ex Kc, OkF K pa F H σ Γ R ∧ XL K pa W σ F H R Ex ∧ h Γ Kc Ex ∧
  ∀ ds Γ', Kc ds Γ' → ∀ J F' H' R', OkF K pa F' H' σ Γ' R' → Stp F H R F' H' R' [] → ItD K J F' ds → Q J H'
structure IJ (X : Cx) (pa : List V) (tg iter : Expr) (h : SI) : Prop where
  run : ∀ W, Takes X W → PI X tg iter (tI X.K pa W h)
theorem PI.imp {X : Cx} {tg e : Expr} {t t' : TI} (h : PI X tg e t) (i : ∀ σ H Q, t' σ H Q → t σ H Q) : PI X tg e t' := ⟨fun pins s σ H Q I q => h.run pins s σ H Q I (i σ H Q q)⟩
/-- a value that stands as it is -/
def rdF (Γ : List S) (a : Arg) (κ : D → Prop) : Prop := match a with
  | .val d => κ d
  | .slot i => match Γ[i]? with
    | some (.v d) => κ d
    | _ => False
section
variable {X : Cx} {pa : List V} {pos p : Pos} {tg a b c e : Expr} {es : List Expr} {f g : SE} {ga gb : SA} {gs : SAs} {h : SI} {K : PySem.W.Frag} {F F' H H' : Hp} {σ : Sg} {Γ Γ' : List S} {R R' : Nat → List Addr}
theorem rdF_ok (o : OkF K pa F H σ Γ R) {v : V} {a : Arg} {κ : D → Prop} (q : ArgOk K F σ v a) (h : rdF Γ a κ) : ∃ d, Rp K F v d ∧ κ d := by
  cases a with
  | val d => exact ⟨d, q, h⟩
  | slot i =>
    have q : σ[i]? = some (some v) := q
    unfold rdF at h
    dsimp only at h
    split at h
    · rename_i d e
      obtain ⟨_, v', e', p⟩ := o.sl i _ e
      rw [q] at e'; cases e'
      exact ⟨d, p, h⟩
    · exact h.elim
theorem Rd.inj {a : Addr} {u u' : HO} (r : H a = some u) (r' : H a = some u') : u = u' := by rw [r] at r'; exact Option.some.inj r'
theorem itd_lst {ar : Addr} {vs : List V} {ds : List D} (q : SqL K F ar vs) (r : RpAll K F vs ds) : ItD K (Itl K ar) F ds := fun i F1 H σ Γ R pa o sb => by
  have sH := sb.trans o.sub
  refine ⟨fun d e => ?_, fun hl => ⟨vs, sH.sqL q, by rw [r.length]; exact Nat.le_of_eq hl⟩⟩
  obtain ⟨v, e1, e2⟩ := r.get e
  refine ⟨⟨vs, v, sH.sqL q, e1⟩, fun x H' ⟨e3, e4⟩ => ?_⟩
  subst e3
  have := e4 vs (sH.sqL q)
  rw [e1] at this; cases this
  exact ⟨F1, o, .refl, Rp.mono sb _ _ e2⟩
theorem itd_tup {ar : Addr} {vs : List V} {ds : List D} (q : SqT K F ar vs) (r : RpAll K F vs ds) : ItD K (Itt K ar) F ds := fun i F1 H σ Γ R pa o sb => by
  have sH := sb.trans o.sub
  refine ⟨fun d e => ?_, fun hl => ⟨vs, sH.sqT q, by rw [r.length]; exact Nat.le_of_eq hl⟩⟩
  obtain ⟨v, e1, e2⟩ := r.get e
  refine ⟨⟨vs, v, sH.sqT q, e1⟩, fun x H' ⟨e3, e4⟩ => ?_⟩
  subst e3
  have := e4 vs (sH.sqT q)
  rw [e1] at this; cases this
  exact ⟨F1, o, .refl, Rp.mono sb _ _ e2⟩
theorem rp_ints : ∀ ns : List Int, RpAll K F (ns.map V.int) (ns.map D.int)
  | [] => .nil
  | n :: ns => .cons (.int n) (rp_ints ns)
theorem itd_rng {lo : Int} {n : Nat} : ItD K (Itr lo n) F ((List.range n).map fun i => .int (lo + (i : Nat))) := fun i F1 H σ Γ R pa o sb => by
  refine ⟨fun d e => ?_, fun hl => (show n ≤ i by simp at hl; omega)⟩
  rw [List.getElem?_map] at e
  by_cases hi : i < n
  · rw [List.getElem?_range hi] at e
    cases e
    refine ⟨hi, fun x H' ⟨e1, e2⟩ => ?_⟩
    subst e1 e2
    exact ⟨F1, o, .refl, .int _⟩
  · rw [List.getElem?_eq_none (by simpa using hi)] at e; cases e
/-- a list or a tuple -/
def iSeq (K : PySem.W.Frag) (tl : TE) : TI := fun σ H R => tl σ H fun x H1 => ∃ a, x = .ref a ∧ ((∃ xs, SqL K H1 a xs ∧ R (Itl K a) H1) ∨ (∃ xs, SqT K H1 a xs ∧ R (Itt K a) H1))
theorem pi_seq {l : Expr} {tl : TE} (hl : PE X l tl) : PI X tg l (iSeq X.K tl) := by
  refine ⟨fun pins s σ H R I h => ?_⟩
  refine thn (hl.run pins s σ H _ I h) fun v s1 ⟨x, H1, I1, r1, q1⟩ => ?_
  obtain ⟨a, e, q1⟩ := q1
  subst e
  cases r1
  rcases q1 with ⟨xs, hq, q⟩ | ⟨xs, hq, q⟩
  · obtain ⟨its, rv, p, hz⟩ := I1.list hq
    refine wpAny_pyIter_list p.isList ?_
    refine ⟨s1.heap.objs.size, [s1.heap.objs.size], _, _, H1, rfl, I1.kept (t' := s1.toks) fun b o e => Heap.get?_push_of_some _ e, turn_list a _, ⟨_, Heap.get?_push_size _ rfl, rfl, rfl⟩, fun b hb => ?_, q⟩
    have e : b = s1.heap.objs.size := by simpa using hb
    subst e
    exact I1.fpOk (Nat.le_refl _) (I1.hok.fresh (Nat.le_refl _))
  · obtain ⟨its, rv, p, hz⟩ := I1.tuple hq
    refine wpAny_pyIter_tuple (show s1.heap.IsTuple a its.toArray from p) ?_
    refine ⟨s1.heap.objs.size, [s1.heap.objs.size], _, _, H1, rfl, I1.kept (t' := s1.toks) fun b o e => Heap.get?_push_of_some _ e, turn_tuple a _, ⟨_, Heap.get?_push_size _ rfl, rfl, rfl⟩, fun b hb => ?_, q⟩
    have e : b = s1.heap.objs.size := by simpa using hb
    subst e
    exact I1.fpOk (Nat.le_refl _) (I1.hok.fresh (Nat.le_refl _))
@[simp] def iS (ga : SA) : SI := fun Γ κ Ex => ga Γ (fun a Γ' => rdF Γ' a fun d => match d with | .lst ds => κ ds Γ' | .tup ds => κ ds Γ' | .tun ds => κ ds Γ' | .scr ns => κ (ns.map .int) Γ' | _ => False) Ex
theorem ij_seq (ha : AJ X pa a ga) : IJ X pa tg a (iS ga) := ⟨fun W tk => PI.imp (pi_seq (ha.run W tk)) fun σ H Q ⟨F, Γ, R, Ex, Kc, o, xl, q, k⟩ => ⟨F, Γ, R, Ex, _, o, xl, q, fun y Γ' h1 v F' H' R' o' s' a' => by
  obtain ⟨d, rp, h2⟩ := rdF_ok o' a' h1
  cases rp with
  | lst q1 q2 => exact ⟨_, rfl, .inl ⟨_, SqL.of (o'.sub _ _ q1), k _ _ h2 _ F' H' R' o' s' (itd_lst (SqL.of q1) q2)⟩⟩
  | scr q1 => exact ⟨_, rfl, .inl ⟨_, o'.sub.sqL q1, k _ _ h2 _ F' H' R' o' s' (itd_lst q1 (rp_ints _))⟩⟩
  | tup q1 q2 => exact ⟨_, rfl, .inr ⟨_, o'.sub.sqT q1, k _ _ h2 _ F' H' R' o' s' (itd_tup q1 q2)⟩⟩
  | tun q1 _ q2 => exact ⟨_, rfl, .inr ⟨_, o'.sub.sqT (.inl (.inr ⟨_, q1⟩)), k _ _ h2 _ F' H' R' o' s' (itd_tup (.inl (.inr ⟨_, q1⟩)) q2)⟩⟩
  | _ => exact h2.elim⟩⟩

/-! range(n), range(a, b) -/
@[simp] def iR1 (gs : SAs) : SI := fun Γ κ Ex => gs Γ (fun as Γ' => rdKs Γ' as fun ds => match ds with | [.int j] => -(2 ^ 62) ≤ j ∧ j < 2 ^ 62 ∧ κ ((List.range j.toNat).map fun i => .int (0 + (i : Nat))) Γ' | _ => False) Ex
@[simp] def iR2 (gs : SAs) : SI := fun Γ κ Ex => gs Γ (fun as Γ' => rdKs Γ' as fun ds => match ds with | [.int i, .int j] => (-(2 ^ 62) ≤ i ∧ i < 2 ^ 62 ∧ -(2 ^ 62) ≤ j ∧ j < 2 ^ 62) ∧ κ ((List.range (j - i).toNat).map fun k => .int (i + (k : Nat))) Γ' | _ => False) Ex
theorem ij_range1 (hg : Gl X "range") (hm : X.mg "range" = none) (ha : AsJ X pa [a] gs) (hs : starEach [a] X.env = [(false, eval a X.env)] := by rfl) : IJ X pa tg (.Call (.Name "range" p) [a] [] pos) (iR1 gs) := ⟨fun W tk =>
  PI.imp (pi_range1 hg hm (ha.run W tk) hs) fun σ H Q ⟨F, Γ, R, Ex, Kc, o, xl, q, k⟩ => ⟨F, Γ, R, Ex, _, o, xl, q, fun as Γ' h1 vs F' H' R' o' s' a' => by
    obtain ⟨ds, bs, h2⟩ := rdKs_ok o' a' h1
    split at h2
    · cases bs with
      | cons b bs =>
        cases bs
        exact ⟨_, by rw [b.int], h2.1, h2.2.1, k _ _ h2.2.2 _ F' H' R' o' s' itd_rng⟩
    · exact h2.elim⟩⟩
theorem ij_range2 (hg : Gl X "range") (hm : X.mg "range" = none) (ha : AsJ X pa [a, b] gs) (hs : starEach [a, b] X.env = [(false, eval a X.env), (false, eval b X.env)] := by rfl) (hs2 : starEach [b] X.env = [(false, eval b X.env)] := by rfl) : IJ X pa tg (.Call (.Name "range" p) [a, b] [] pos) (iR2 gs) := ⟨fun W tk =>
  PI.imp (pi_range2 hg hm (ha.run W tk) hs hs2) fun σ H Q ⟨F, Γ, R, Ex, Kc, o, xl, q, k⟩ => ⟨F, Γ, R, Ex, _, o, xl, q, fun as Γ' h1 vs F' H' R' o' s' a' => by
    obtain ⟨ds, bs, h2⟩ := rdKs_ok o' a' h1
    split at h2
    · cases bs with
      | cons b bs =>
        cases bs with
        | cons b' bs =>
          cases bs
          exact ⟨_, _, by rw [b.int, b'.int], h2.1, k _ _ h2.2 _ F' H' R' o' s' itd_rng⟩
    · exact h2.elim⟩⟩

/-! ### for -/
def forGo (g : SG) (z : SS) (k : Kn) : List D → List S → Xk → Prop
  | [], Γ, _ => k.nx Γ
  | d :: ds, Γ, Ex => g d Γ fun Γ1 => z { k with nx := fun Γ2 => forGo g z k ds Γ2 Ex, ct := fun Γ2 => forGo g z k ds Γ2 Ex, bk := k.nx } Γ1 Ex
@[simp] def zFor (h : SI) (g : SG) (z : SS) : SS := fun k Γ Ex => h Γ (fun ds Γ1 => forGo g z k ds Γ1 Ex) Ex
theorem drop_get {α : Type} {l : List α} {i : Nat} (h : i < l.length) : l.drop i = l[i] :: l.drop (i + 1) := by rw [List.drop_eq_getElem_cons h]
theorem sj_for {iter : Expr} {body : List Stmt} {g : SG} {z : SS} {ws : List Nat} (hp : PassesOwn (model X.prog X.w) X.A X.env X.xe) (hc : X.calm = true) (hi : IJ X pa tg iter h) (hg : GJ X pa ws tg g) (hb : SsJ X pa body z)
    (hs : ∀ x, foldedSetIterable iter X.env x = pure x := by intro _; rfl) : SJ X pa (.For tg iter body [] pos) (zFor h g z) := ⟨fun W tk => PS.imp (ps_for hp hc (hi.run W tk) hg.run (hb.run W tk) hs) fun D σ H ⟨F, Γ, R, Ex, k, o, xl, q, n, r, bk, ct⟩ =>
  ⟨F, Γ, R, Ex, _, o, xl σ, q, fun ds Γ1 h1 J F1 H1 R1 o1 s1 it => by
    refine ⟨fun i m σ H => m = ds.length - i ∧ i ≤ ds.length ∧ ∃ F Γ R, OkF X.K pa F H σ Γ R ∧ Stp F1 H1 R1 F H R [] ∧ forGo g z k (ds.drop i) Γ Ex, ⟨ds.length, by simp, Nat.zero_le _, F1, Γ1, R1, o1, .refl, by simpa using h1⟩, ?_⟩
    rintro i m σ2 H2 ⟨rfl, hi, F2, Γ2, R2, o2, s2, h2⟩
    obtain ⟨go, stop⟩ := it i F2 H2 σ2 Γ2 R2 pa o2 s2.sub
    by_cases hlt : i < ds.length
    · rw [drop_get hlt] at h2
      obtain ⟨go, yld⟩ := go _ (List.getElem?_eq_getElem hlt)
      refine .inr ⟨go, fun σ' H' => ∃ F Γ R, OkF X.K pa F H' σ' Γ R ∧ Stp F1 H1 R1 F H' R [] ∧ forGo g z k (ds.drop (i + 1)) Γ Ex, fun σ' H' ⟨F', Γ', R', o', s', h'⟩ => ⟨ds.length - (i + 1), by omega, rfl, hlt, F', Γ', R', o', s', h'⟩, fun x H3 y => ?_⟩
      obtain ⟨F3, o3, s3, rp⟩ := yld x H3 y
      refine ⟨F3, Γ2, R2, _, _, o3, rp, h2, fun Γ4 h4 σ4 R4 o4 l4 _ => ?_⟩
      have s4 : Stp F1 H1 R1 F3 H3 R4 [] := (s2.trans s3).le l4
      refine ⟨F3, Γ4, R4, Ex, _, o4, fun σ' => (xl σ').step (s1.trans s4), h4, ?_, ?_, ?_, ?_⟩
      · exact fun Γ' h' σ' F' H' R' o' s' => ⟨F', Γ', R', o', s4.trans s', h'⟩
      · exact fun t Γ' h' v σ' F' H' R' r' o' s' x' => r t Γ' h' v σ' F' H' R' r' o' ((s1.trans s4).trans s') x'
      · exact fun Γ' h' σ' F' H' R' o' s' => n Γ' h' σ' F' H' R' o' ((s1.trans s4).trans s')
      · exact fun Γ' h' σ' F' H' R' o' s' => ⟨F', Γ', R', o', s4.trans s', h'⟩
    · rw [List.drop_eq_nil_of_le (by omega)] at h2
      exact .inl ⟨stop (by omega), n _ h2 σ2 F2 H2 R2 o2 (s1.trans s2)⟩⟩⟩

/-! ### while -/
def zWhile (c : ST) (z : SS) : SS := fun k Γ Ex => ∃ I : Nat → List S → Prop, (∃ m, I m Γ) ∧ ∀ m Γ, I m Γ →
  c Γ (fun b Γ1 => if b = true then z { k with nx := fun Γ2 => ∃ m', m' < m ∧ I m' Γ2, ct := fun Γ2 => ∃ m', m' < m ∧ I m' Γ2, bk := k.nx } Γ1 Ex else k.nx Γ1) Ex
theorem sj_while {body : List Stmt} {ft : ST} {z : SS} (hp : PassesOwn (model X.prog X.w) X.A X.env X.xe) (hc : TJ X pa c ft) (hb : SsJ X pa body z) : SJ X pa (.While c body [] pos) (zWhile ft z) := ⟨fun W tk => PS.imp (ps_while hp (hc.run W tk) (hb.run W tk)) fun D σ H ⟨F, Γ, R, Ex, k, o, xl, ⟨I, ⟨m0, i0⟩, turn⟩, n, r, bk, ct⟩ => by
  refine ⟨fun m σ' H' => ∃ F' Γ' R', OkF X.K pa F' H' σ' Γ' R' ∧ Stp F H R F' H' R' [] ∧ I m Γ', ⟨m0, F, Γ, R, o, .refl, i0⟩, ?_⟩
  rintro m σ1 H1 ⟨F1, Γ1, R1, o1, s1, i1⟩
  refine ⟨F1, Γ1, R1, Ex, _, o1, (xl σ1).step s1, turn m Γ1 i1, fun b Γ2 h2 F2 H2 R2 o2 s2 => ?_⟩
  cases b with
  | true =>
    rw [if_pos rfl] at h2 ⊢
    refine ⟨fun σ' H' => ∃ m', m' < m ∧ ∃ F' Γ' R', OkF X.K pa F' H' σ' Γ' R' ∧ Stp F H R F' H' R' [] ∧ I m' Γ', fun σ' H' h => h, F2, Γ2, R2, Ex, _, o2, fun σ' => (xl σ').step (s1.trans s2), h2, ?_, ?_, ?_, ?_⟩
    · exact fun Γ' ⟨m', hm, h'⟩ σ' F' H' R' o' s' => ⟨m', hm, F', Γ', R', o', (s1.trans s2).trans s', h'⟩
    · exact fun t Γ' h' v σ' F' H' R' r' o' s' x' => r t Γ' h' v σ' F' H' R' r' o' ((s1.trans s2).trans s') x'
    · exact fun Γ' h' σ' F' H' R' o' s' => n Γ' h' σ' F' H' R' o' ((s1.trans s2).trans s')
    · exact fun Γ' ⟨m', hm, h'⟩ σ' F' H' R' o' s' => ⟨m', hm, F', Γ', R', o', (s1.trans s2).trans s', h'⟩
  | false =>
    rw [if_neg Bool.false_ne_true] at h2 ⊢
    exact n _ h2 σ1 F2 H2 R2 o2 (s1.trans s2)⟩
end
end L3
namespace L3
open PySem PySem.Spec PyProof.Rows L2

/-! ### list comprehensions -/
@[simp] def clr (vs : List Nat) (Γ : List S) : List S := Γ.mapIdx fun i s => if vs.contains i then .un else s
@[simp] def rstS (vs : List Nat) (Γ0 : List S) (i : Nat) (s : S) : S := if vs.contains i then (match Γ0[i]? with | some (.v d) => .v d | _ => .un) else s
@[simp] def rst (vs : List Nat) (Γ0 Γ : List S) : List S := Γ.mapIdx (rstS vs Γ0)
theorem wipe_get {σ : Sg} {i : Nat} : ∀ {vs : List Nat}, (wipe σ vs)[i]? = if vs.contains i then (if i < σ.length then some none else none) else σ[i]?
  | [] => rfl
  | v :: vs => by
    unfold wipe
    have ih := wipe_get (σ := σ) (i := i) (vs := vs)
    by_cases e : v = i
    · subst e
      rw [List.contains_cons, beq_self_eq_true, Bool.true_or, if_pos rfl]
      by_cases hl : v < σ.length
      · rw [List.getElem?_set_self (by rw [wipe_length]; exact hl), if_pos hl]
      · rw [List.getElem?_eq_none (by rw [List.length_set, wipe_length]; omega), if_neg hl]
    · rw [List.getElem?_set_ne e, ih, List.contains_cons]
      have : (i == v) = false := by simpa using fun z => e z.symm
      rw [this, Bool.false_or]
theorem wipe_idem (σ : Sg) (vs : List Nat) : wipe (wipe σ vs) vs = wipe σ vs := by
  apply List.ext_getElem?
  intro j
  rw [wipe_get, wipe_length]
  by_cases c : vs.contains j = true
  · rw [if_pos c]
    have h := wipe_get (σ := σ) (i := j) (vs := vs)
    rw [if_pos c] at h
    exact h.symm
  · rw [if_neg c]
section
variable {K : PySem.W.Frag} {pa : List V} {F F' H H' : Hp} {σ : Sg} {Γ Γ' : List S} {R R' : Nat → List Addr} {vs : List Nat} {r : List Addr}
def offR (vs : List Nat) (R : Nat → List Addr) (i : Nat) : List Addr := if vs.contains i then [] else R i
theorem offR_le : Le (offR vs R) R := fun i a h => by
  unfold offR at h
  split at h
  · cases h
  · exact h
theorem clr_ok (o : OkF K pa F H σ Γ R) : OkF K pa F H (wipe σ vs) (clr vs Γ) (offR vs R) := by
  refine ⟨o.sub, by rw [clr, List.length_mapIdx, wipe_length]; exact o.len, fun i s e => ?_, fun i j a h1 h2 => o.dj i j a (offR_le i a h1) (offR_le j a h2), fun i a h => o.fr i a (offR_le i a h), fun i a h => o.hs i a (offR_le i a h), o.sys⟩
  unfold clr at e
  rw [List.getElem?_mapIdx] at e
  cases e0 : Γ[i]? with
  | none => rw [e0] at e; cases e
  | some s0 =>
    rw [e0] at e
    have e : (if vs.contains i = true then S.un else s0) = s := by simpa using e
    by_cases c : vs.contains i = true
    · rw [if_pos c] at e
      subst e
      show offR vs R i = []
      unfold offR; rw [if_pos c]
    · rw [if_neg c] at e
      subst e
      rw [wipe_get, if_neg c]
      have : offR vs R i = R i := by unfold offR; rw [if_neg c]
      rw [this]
      exact o.sl i s0 e0
/-- back from the block: its own names as they were -/
theorem rst_ok {F0 H0 : Hp} {Γ0 : List S} {R0 : Nat → List Addr} (o0 : OkF K pa F0 H0 σ Γ0 R0) (sb : Sub F0 F) (o : OkF K pa F H (wipe σ vs) Γ R) : OkF K pa F H σ (rst vs Γ0 Γ) (offR vs R) := by
  refine ⟨o.sub, by rw [rst, List.length_mapIdx, o.len, wipe_length], fun i s e => ?_, fun i j a h1 h2 => o.dj i j a (offR_le i a h1) (offR_le j a h2), fun i a h => o.fr i a (offR_le i a h), fun i a h => o.hs i a (offR_le i a h), o.sys⟩
  unfold rst at e
  rw [List.getElem?_mapIdx] at e
  cases e0 : Γ[i]? with
  | none => rw [e0] at e; cases e
  | some s0 =>
    rw [e0] at e
    have e : rstS vs Γ0 i s0 = s := by simpa using e
    unfold rstS at e
    by_cases c : vs.contains i = true
    · rw [if_pos c] at e
      have er : offR vs R i = [] := by unfold offR; rw [if_pos c]
      rw [er]
      split at e
      · rename_i d e1
        subst e
        obtain ⟨_, v, e2, rp⟩ := o0.sl i _ e1
        exact ⟨rfl, v, e2, Rp.mono sb _ _ rp⟩
      · subst e; rfl
    · rw [if_neg c] at e
      subst e
      have q := o.sl i s0 e0
      rw [wipe_get, if_neg c] at q
      have : offR vs R i = R i := by unfold offR; rw [if_neg c]
      rw [this]
      exact q
/-- an object at hand is written -/
theorem OkF.updX {a : Addr} {x : HO} (o : OkF K pa F H σ Γ R) (hF : F a = none) (hR : ∀ i, a ∉ R i) : OkF K pa F (upd H a x) σ Γ R := by
  refine ⟨fun b y q => ?_, o.len, fun i s e => ?_, o.dj, o.fr, fun i b h => ?_, o.sys⟩
  · rw [upd_ne (fun e => by rw [e, hF] at q; cases q)]; exact o.sub b y q
  · have q := o.sl i s e
    cases s with
    | un => exact q
    | v d => exact q
    | o j t => exact let ⟨v, e, p, z⟩ := q; ⟨v, e, p.mono .refl _ _ _ fun b hb => upd_ne fun e : b = a => hR i (by rw [← e]; exact hb), z⟩
  · rw [upd_ne (fun e : b = a => hR i (by rw [← e]; exact h))]; exact o.hs i b h
theorem Stp.updX {F0 H0 : Hp} {R0 : Nat → List Addr} {a : Addr} {x : HO} (s : Stp F0 H0 R0 F H R r) (h : H0 a = none) : Stp F0 H0 R0 F (upd H a x) R [a] :=
  ⟨s.sub, fun b o q n => by rw [upd_ne (fun e => by rw [e, h] at q; cases q)]; exact s.keep b o q n, s.rn, fun b hb => by
    have e : b = a := by simpa using hb
    rw [e]; exact .inl h, s.fn⟩
end
@[simp] def cYes : ST := fun Γ κ _ => κ true Γ
abbrev noX : Xk := fun _ _ => False
def compGo (g : SG) (c : ST) (f : SE) (vs : List Nat) : List D → List S → (List D → List S → Prop) → Prop
  | [], Γ, κ => κ [] Γ
  | d :: ds, Γ, κ => g d Γ fun Γ1 => c Γ1 (fun b Γ2 => if b = true then f Γ2 (fun t Γ3 => compGo g c f vs ds (clr vs Γ3) fun ys Γ4 => κ (t.fz :: ys) Γ4) noX else compGo g c f vs ds (clr vs Γ2) κ) noX
@[simp] def sComp (h : SI) (g : SG) (c : ST) (f : SE) (vs : List Nat) : SE := fun Γ κ Ex => h Γ (fun ds Γ1 => ds.length ≤ sizeLine ∧ compGo g c f vs ds (clr vs Γ1) fun ys Γ2 => κ (.ls ys) (rst vs Γ1 Γ2)) Ex
section
variable {X : Cx} {pa : List V} {pos p : Pos} {tg iter elt : Expr} {ifs : List Expr} {scope : Scope} {own : List (Str × Nat)} {es : List Expr} {f : SE} {h : SI} {g : SG} {c : ST}
abbrev noW : WX := fun _ _ _ _ => False
theorem takesNo {X : Cx} : Takes X noW := fun u s' ⟨a, B, sI, pins, σ, H, cls, d, e, I, nb, up, sky, na, os, ag, w⟩ => w.elim
theorem RpAll.snoc {K : PySem.W.Frag} {F : Hp} {vs : List V} {ds : List D} {v : V} {d : D} (h : RpAll K F vs ds) (q : Rp K F v d) : RpAll K F (vs ++ [v]) (ds ++ [d]) := h.append (.cons q .nil)
theorem tLc_of {W : WX} {vs : List Nat} {σ : Sg} {H : Hp} {Q : VK} (hh : tE X.K pa W (sComp h g c f vs) σ H Q) : tLc (tI X.K pa W h) (tG X.K pa vs g) (tT X.K pa noW c) (tE X.K pa noW f) vs σ H Q := by
  obtain ⟨F, Γ, R, Ex, Kc, o, xl, q, kk⟩ := hh
  refine ⟨F, Γ, R, Ex, _, o, xl, q, fun ds Γ1 ⟨hsz, h1⟩ J F1 H1 R1 o1 s1 it => fun Dd hD => ?_⟩
  refine ⟨fun i m H => m = ds.length - i ∧ i ≤ ds.length ∧ ∃ F Γ R acc, OkF X.K pa F H (wipe σ vs) Γ R ∧ Stp F1 H1 R1 F H R [Dd] ∧ Res X.K F H R (.ref Dd) (.ls acc) [Dd] ∧ acc.length ≤ i ∧ compGo g c f vs (ds.drop i) Γ (fun ys Γ2 => Kc (.ls (acc ++ ys)) (rst vs Γ1 Γ2)), ⟨ds.length, ?_⟩, ?_⟩
  · have oc := clr_ok (vs := vs) o1
    obtain ⟨o2, s2⟩ := oc.newH (x := .lst []) hD
    refine ⟨by simp, Nat.zero_le _, F1, _, _, [], o2, ?_, ⟨.ls upd_same .nil, fun i a ha hi => ?_, fun a ha => ?_⟩, Nat.le_refl _, by simpa using h1⟩
    · exact ((Stp.refl.le offR_le).trans s2)
    · have e : a = Dd := by simpa using ha
      subst e; exact oc.hs i a hi hD
    · have e : a = Dd := by simpa using ha
      subst e; exact o1.sub.none hD
  · rintro i m H2 ⟨rfl, hi, F2, Γ2, R2, acc, o2, s2, x2, hacc, h2⟩
    obtain ⟨go, stop⟩ := it i F2 H2 (wipe σ vs) Γ2 R2 pa o2 s2.sub
    by_cases hlt : i < ds.length
    · rw [drop_get hlt] at h2
      obtain ⟨go, yld⟩ := go _ (List.getElem?_eq_getElem hlt)
      refine .inr ⟨go, fun H => ∃ F Γ R acc, OkF X.K pa F H (wipe σ vs) Γ R ∧ Stp F1 H1 R1 F H R [Dd] ∧ Res X.K F H R (.ref Dd) (.ls acc) [Dd] ∧ acc.length ≤ i + 1 ∧ compGo g c f vs (ds.drop (i + 1)) Γ (fun ys Γ2 => Kc (.ls (acc ++ ys)) (rst vs Γ1 Γ2)),
        fun H' hN => ⟨ds.length - (i + 1), by omega, rfl, hlt, hN⟩, fun x H3 y => ?_⟩
      obtain ⟨F3, o3, s3, rp⟩ := yld x H3 y
      refine ⟨F3, Γ2, R2, _, _, o3, rp, h2, fun Γ4 h4 σ4 R4 o4 l4 w4 => ?_⟩
      rw [wipe_idem] at w4
      have x3 := (x2.keep s3).le l4
      have s4 : Stp F1 H1 R1 F3 H3 R4 [] := (s2.trans s3).le l4
      refine ⟨w4, F3, Γ4, R4, noX, _, o4, fun _ _ _ _ _ _ _ h => h.elim, h4, fun b Γ5 h5 F5 H5 R5 o5 s5 => ?_⟩
      have x5 := x3.keep s5
      cases b with
      | true =>
        dsimp only
        rw [if_pos rfl] at h5 ⊢
        refine ⟨F5, Γ5, R5, noX, _, o5, fun _ _ _ _ _ _ _ h => h.elim, h5, fun t Γ6 h6 v F6 H6 R6 r6 o6 s6 x6 => ?_⟩
        have x7 := x5.keep (x6.freezeStp s6)
        · have own7 := x7.own
          obtain ⟨ws, e7, r7⟩ : ∃ ws, H6 Dd = some (.lst ws) ∧ RpAll X.K (fzH F6 H6 r6) ws acc := by
            cases own7 with
            | ls q1 q2 => exact ⟨_, q1, q2⟩
          have hlen : ws.length = acc.length := r7.length
          have r8 := r7.snoc x6.freezeRp
          have o7 := x6.freezeOk o6
          have n7F : fzH F6 H6 r6 Dd = none := x7.fr Dd (by simp)
          have n7R : ∀ i, Dd ∉ R6 i := fun i => x7.dj i Dd (by simp)
          have s7 := x6.freezeStp s6
          have o8 := (clr_ok (vs := vs) o7).updX (a := Dd) (x := .lst (ws ++ [v])) n7F (fun i z => n7R i (offR_le i _ z))
          refine ⟨ws, e7, by omega, _, clr vs Γ6, offR vs R6, acc ++ [t.fz], ?_, ?_, ⟨.ls upd_same r8, fun i a ha hi => ?_, fun a ha => ?_⟩, by simp; omega, ?_⟩
          · have := o8
            rw [show wipe σ4 vs = wipe σ vs from w4] at this
            exact this
          · exact (((s4.trans s5).trans s7).le offR_le).updX hD
          · have e : a = Dd := by simpa using ha
            subst e; exact n7R i (offR_le i _ hi)
          · have e : a = Dd := by simpa using ha
            subst e; exact n7F
          · simpa using h6
      | false =>
        dsimp only
        rw [if_neg Bool.false_ne_true] at h5 ⊢
        refine ⟨F5, clr vs Γ5, offR vs R5, acc, ?_, ?_, x5.le offR_le, by omega, h5⟩
        · have := clr_ok (vs := vs) o5
          rw [show wipe σ4 vs = wipe σ vs from w4] at this
          exact this
        · exact (((s4.trans s5)).le offR_le).withR fun a ha => by
            have e : a = Dd := by simpa using ha
            rw [e]; exact .inl hD
    · rw [List.drop_eq_nil_of_le (by omega)] at h2
      refine .inl ⟨stop (by omega), kk _ _ (by simpa [compGo] using h2) _ F2 H2 _ [Dd] (rst_ok o1 s2.sub o2) ((s1.trans s2).le offR_le) (x2.le offR_le)⟩

structure CJ (X : Cx) (pa : List V) (ifs : List Expr) (c : ST) : Prop where
  run : PTs X ifs (tT X.K pa noW c)
theorem cj_nil : CJ X pa [] cYes := ⟨⟨fun pins s σ H Q I ⟨F, Γ, R, Ex, Kc, o, xl, q, k⟩ => pts_nil.run pins s σ H Q I (k _ _ q F H R o .refl)⟩⟩
theorem cj_one {a : Expr} (h : TJ X pa a c) : CJ X pa [a] c := ⟨pts_one (h.run noW takesNo)⟩
/-- [elt for tg in iter if ..] -/
theorem ej_comp (hc : X.calm = true) (hN : X.N.Nodup) (ok : BlkOk X.N X.env.scope scope own) (hi : IJ X pa tg iter h)
    (hg : ∀ (s : Shared) (H : Hp) (C : Addr) (cl : List (Str × Addr)) (fp : List Addr), GJ (X.blk s H scope (compEnvC scope cl C X.env) fp) pa (own.map (·.2)) tg g)
    (ht : ∀ (s : Shared) (H : Hp) (C : Addr) (cl : List (Str × Addr)) (fp : List Addr), CJ (X.blk s H scope (compEnvC scope cl C X.env) fp) pa ifs c)
    (he : ∀ (s : Shared) (H : Hp) (C : Addr) (cl : List (Str × Addr)) (fp : List Addr), EJ (X.blk s H scope (compEnvC scope cl C X.env) fp) pa elt f)
    (hs : ∀ x, foldedSetIterable iter X.env x = pure x := by intro _; rfl) : EJ X pa (.ListComp elt [⟨tg, iter, ifs, 0⟩] scope pos) (sComp h g c f (own.map (·.2))) := ⟨fun W tk =>
  PE.imp (pe_lc hc hN (hi.run W tk) ok (fun s H C cl fp => (hg s H C cl fp).run) (fun s H C cl fp => (ht s H C cl fp).run) (fun s H C cl fp => (he s H C cl fp).run noW takesNo) hs) fun σ H Q h => tLc_of h⟩
/-- name = [..] on one line -/
theorem sj_setComp {i : Nat} {y : Str} {py spos : Pos} {z : SS} (hc : X.calm = true) (hN : X.N.Nodup) (hy : X.N[i]? = some y) (hyl : X.env.scope.names.lookup y = some .local)
    (hsw : swapsWith (.ListComp elt [⟨tg, iter, ifs, 0⟩] scope pos) (some (.Name y py)) spos.line X.env = pure true) (ok : BlkOk X.N X.env.scope scope own) (hi : IJ X pa tg iter h)
    (hg : ∀ (s : Shared) (H : Hp) (C : Addr) (cl : List (Str × Addr)) (fp : List Addr), GJ (X.blk s H scope (compEnvC scope cl C X.env) fp) pa (own.map (·.2)) tg g)
    (ht : ∀ (s : Shared) (H : Hp) (C : Addr) (cl : List (Str × Addr)) (fp : List Addr), CJ (X.blk s H scope (compEnvC scope cl C X.env) fp) pa ifs c)
    (he : ∀ (s : Shared) (H : Hp) (C : Addr) (cl : List (Str × Addr)) (fp : List Addr), EJ (X.blk s H scope (compEnvC scope cl C X.env) fp) pa elt f)
    (hz : (z = zAsg (sComp h g c f (own.map (·.2))) (gN i)) ∨ (z = zOwn i (sComp h g c f (own.map (·.2)))))
    (hs : ∀ x, foldedSetIterable iter X.env x = pure x := by intro _; rfl) : SJ X pa (.Assign [.Name y py] (.ListComp elt [⟨tg, iter, ifs, 0⟩] scope pos) spos) z := ⟨fun W tk =>
  PS.imp (ps_setLc hc hN hy hyl hsw (hi.run W tk) ok (fun s H C cl fp => (hg s H C cl fp).run) (fun s H C cl fp => (ht s H C cl fp).run) (fun s H C cl fp => (he s H C cl fp).run noW takesNo) hs) fun D σ H hh => by
    obtain ⟨F, Γ, R, Ex, k, o, xl, q, n, _⟩ := hh
    refine tLc_of (h := h) (g := g) (c := c) (f := f) (W := W) (Q := fun x H1 => D.nx (σ.set i (some x)) H1) ?_
    rcases hz with rfl | rfl
    · exact ⟨F, Γ, R, Ex, _, o, xl σ, q, fun t Γ' h1 v F' H' R' r o' s' x' => n _ h1 _ _ H' _ ((x'.freezeOk o').setV x'.freezeRp) ((x'.freezeStp s').le fun j a h => by
        by_cases hj : j = i
        · rw [if_pos hj] at h; cases h
        · rw [if_neg hj] at h; exact h)⟩
    · exact ⟨F, Γ, R, Ex, _, o, xl σ, q, fun t Γ' h1 v F' H' R' r o' s' x' => n _ h1 _ F' H' _ (o'.setO x') s'.setO⟩⟩
end
end L3
namespace L3
open PySem PySem.Spec PyProof.Rows L2

/-! ### data as the library's data -/
def keyPy : Key → PyData
  | .inl i => .int i
  | .inr x => .str x
mutual
def D.py : D → PyData
  | .non => .none
  | .bl b => .bool b
  | .int i => .int i
  | .str x => .str x
  | .tup xs => .tuple (pys xs)
  | .lst xs => .list (pys xs)
  | .dic kvs => .dict (pyKv kvs)
  | .ref _ => .none
  | .ty _ => .none
  | .scr _ => .none
  | .exc _ _ _ => .none
  | .fn _ => .none
  | .tun xs => .tuple (pys xs)
  | .dil _ => .none
def pys : List D → List PyData
  | [] => []
  | x :: xs => x.py :: pys xs
def pyKv : List (Key × D) → List (PyData × PyData)
  | [] => []
  | (k, v) :: r => (keyPy k, v.py) :: pyKv r
end
/-! no dict, no object within -/
mutual
def D.pl : D → Bool
  | .non | .bl _ | .int _ | .str _ => true
  | .tup xs | .lst xs | .tun xs => pls xs
  | _ => false
def pls : List D → Bool
  | [] => true
  | x :: xs => x.pl && pls xs
end
/-! no object within -/
mutual
def D.pd : D → Bool
  | .non | .bl _ | .int _ | .str _ => true
  | .tup xs | .lst xs | .tun xs => pds xs
  | .dic kvs => pdk kvs
  | _ => false
def pds : List D → Bool
  | [] => true
  | x :: xs => x.pd && pds xs
def pdk : List (Key × D) → Bool
  | [] => true
  | (_, x) :: xs => x.pd && pdk xs
end
mutual
def D.dep : D → Nat
  | .tup xs | .lst xs | .tun xs => deps xs + 1
  | .dic kvs => depk kvs + 1
  | _ => 0
def deps : List D → Nat
  | [] => 0
  | x :: xs => max x.dep (deps xs)
def depk : List (Key × D) → Nat
  | [] => 0
  | (_, x) :: xs => max x.dep (depk xs)
end
mutual
theorem py_plain : ∀ d : D, d.pl = true → d.py.plain = true
  | .non, _ => rfl
  | .bl _, _ => rfl
  | .int _, _ => rfl
  | .str _, _ => rfl
  | .tup xs, h => by rw [D.py, PyData.plain]; exact pys_plain xs (by simpa [D.pl] using h)
  | .tun xs, h => by rw [D.py, PyData.plain]; exact pys_plain xs (by simpa [D.pl] using h)
  | .lst xs, h => by rw [D.py, PyData.plain]; exact pys_plain xs (by simpa [D.pl] using h)
  | .dic _, h => by simp [D.pl] at h
  | .ref _, h => by simp [D.pl] at h
  | .ty _, h => by simp [D.pl] at h
  | .scr _, h => by simp [D.pl] at h
theorem pys_plain : ∀ xs : List D, pls xs = true → PyData.plainAll (pys xs) = true
  | [], _ => rfl
  | x :: xs, h => by
    have h' : x.pl = true ∧ pls xs = true := by simpa [pls] using h
    rw [pys, PyData.plainAll, py_plain x h'.1, pys_plain xs h'.2]; rfl
end
mutual
theorem py_depth : ∀ d : D, d.py.depth = d.dep
  | .non => by simp [D.py, D.dep, PyData.depth]
  | .bl _ => by simp [D.py, D.dep, PyData.depth]
  | .int _ => by simp [D.py, D.dep, PyData.depth]
  | .str _ => by simp [D.py, D.dep, PyData.depth]
  | .tup xs => by simp [D.py, D.dep, PyData.depth, pys_depth xs]
  | .lst xs => by simp [D.py, D.dep, PyData.depth, pys_depth xs]
  | .dic kvs => by simp [D.py, D.dep, PyData.depth, pyKv_depth kvs]
  | .ref _ => by simp [D.py, D.dep, PyData.depth]
  | .ty _ => by simp [D.py, D.dep, PyData.depth]
  | .scr _ => by simp [D.py, D.dep, PyData.depth]
  | .exc _ _ _ => by simp [D.py, D.dep, PyData.depth]
  | .fn _ => by simp [D.py, D.dep, PyData.depth]
  | .tun xs => by simp [D.py, D.dep, PyData.depth, pys_depth xs]
  | .dil _ => by simp [D.py, D.dep, PyData.depth]
theorem pys_depth : ∀ xs : List D, PyData.depthAll (pys xs) = deps xs
  | [] => by simp [pys, deps, PyData.depthAll]
  | x :: xs => by simp [pys, deps, PyData.depthAll, py_depth x, pys_depth xs]
theorem pyKv_depth : ∀ xs : List (Key × D), PyData.depthKv (pyKv xs) = depk xs
  | [] => by simp [pyKv, depk, PyData.depthKv]
  | (.inl i, x) :: xs => by simp [pyKv, depk, PyData.depthKv, py_depth x, pyKv_depth xs, PyData.depth, keyPy]
  | (.inr i, x) :: xs => by simp [pyKv, depk, PyData.depthKv, py_depth x, pyKv_depth xs, PyData.depth, keyPy]
end
section
variable {X : Cx} {pins : List (Addr × Obj)} {σ : Sg} {F H : Hp} {s : Shared}
theorem keyPy_reads {h : Heap} {w : World} {P : Program} (k : Key) (key : Value) (e : (mixKind P w).is k key = true) : Reads h key (keyPy k) [] := by
  rcases keyIs_shape (k := k) (v := key) e with ⟨i, t, rfl, rfl⟩ | ⟨x, t, rfl, rfl⟩
  · exact Reads.int i t
  · exact Reads.str x t
theorem pairs_len {kvs : List (Key × V)} {kds : List (Key × D)} {K : PySem.W.Frag} (h : RpKv K F kvs kds) : kvs.length = kds.length := by
  cases h with
  | nil => rfl
  | cons _ q => rw [List.length_cons, List.length_cons, pairs_len q]
/-- the system's own table is no list of ours -/
def Sy (F : Hp) : Prop := ∃ o φ, F sysModules = some (.frz o (.ext φ))
theorem Sy.ne {F : Hp} (y : Sy F) {a : Addr} {vs : List V} (h : F a = some (.lst vs)) : a ≠ sysModules := fun e => by
  obtain ⟨o, φ, q⟩ := y
  rw [e, q] at h
  cases h
theorem Sy.mono {F F' : Hp} (y : Sy F) (sb : Sub F F') : Sy F' := let ⟨o, φ, q⟩ := y; ⟨o, φ, sb _ _ q⟩
mutual
/-- what a value reads as -/
theorem Rp.reads (y : Sy F) (I : Inv X pins σ H s) (sb : Sub F H) : ∀ (d : D) (v : V) (u : Value), d.pd = true → Rp X.K F v d → RelV v u → ∃ as, Reads s.heap u d.py as ∧ sysModules ∉ as
  | .non, _, _, _, .non, r => by cases r; exact ⟨_, Reads.none, by simp⟩
  | .bl b, _, _, _, .bl _, r => by cases r; exact ⟨_, Reads.bool b, by simp⟩
  | .int i, _, _, _, .int _, r => by obtain ⟨t, rfl⟩ := r; exact ⟨_, Reads.int i t, by simp⟩
  | .str x, _, _, _, .str _, r => by obtain ⟨t, rfl⟩ := r; exact ⟨_, Reads.str x t, by simp⟩
  | .lst ds, _, _, hp, .lst hs ha, r => by
    cases r
    have ne := y.ne hs
    obtain ⟨its, rv, ⟨o, m, ho, hc, _, hd⟩, _⟩ := I.list (SqL.of (sb _ _ hs))
    obtain ⟨as, hr, hn⟩ := RpAll.reads y I sb ds _ its (by simpa [D.pd] using hp) ha rv
    exact ⟨_, Reads.list ho hc hd hr, fun h => (List.mem_cons.mp h).elim (fun e => ne e.symm) hn⟩
  | .tup ds, _, _, hp, .tup hs ha, r => by
    cases r
    obtain ⟨its, rv, ⟨o, ho, hc, m, hd⟩, _⟩ := I.tuple (sb.sqT hs)
    obtain ⟨as, hr, hn⟩ := RpAll.reads y I sb ds _ its (by simpa [D.pd] using hp) ha rv
    exact ⟨_, Reads.tuple ho hc hd hr, hn⟩
  | .dic ds, _, _, hp, .dic hs ha, r => by
    cases r
    obtain ⟨_, ne, vs, kv, hd⟩ := (sb.rd hs).ok I.hok
    obtain ⟨as, hr, hn⟩ := RpKv.reads y I sb ds _ vs (by simpa [D.pd] using hp) ha kv
    exact ⟨_, PyProof.V.reads_dictOf (enc := keyPy) (fun k key e => keyPy_reads k key e) hd hr, fun h => (List.mem_cons.mp h).elim (fun e => (beq_eq_false_iff_ne.mp ne) e.symm) hn⟩
  | .ref _, _, _, h, _, _ => by simp [D.pd] at h
  | .ty _, _, _, h, _, _ => by simp [D.pd] at h
  | .scr _, _, _, h, _, _ => by simp [D.pd] at h
  | .exc _ _ _, _, _, h, _, _ => by simp [D.pd] at h
  | .fn _, _, _, h, _, _ => by simp [D.pd] at h
  | .dil _, _, _, h, _, _ => by simp [D.pd] at h
  | .tun ds, _, _, hp, .tun hs _ ha, r => by
    cases r
    obtain ⟨its, rv, ⟨o, ho, hc, m, hd⟩, _⟩ := I.tuple (sb.sqT (.inl (.inr ⟨_, hs⟩)))
    obtain ⟨as, hr, hn⟩ := RpAll.reads y I sb ds _ its (by simpa [D.pd] using hp) ha rv
    exact ⟨_, Reads.tuple ho hc hd hr, hn⟩
theorem RpAll.reads (y : Sy F) (I : Inv X pins σ H s) (sb : Sub F H) : ∀ (ds : List D) (vs : List V) (us : List Value), pds ds = true → RpAll X.K F vs ds → Vals vs us → ∃ as, ReadsAll s.heap us (pys ds) as ∧ sysModules ∉ as
  | [], _, _, _, .nil, .nil => ⟨_, ReadsAll.nil, by simp⟩
  | d :: ds, _, _, h, .cons h1 h2, .cons r1 r2 => by
    have h' : d.pd = true ∧ pds ds = true := by simpa [pds] using h
    obtain ⟨as, q1, n1⟩ := Rp.reads y I sb d _ _ h'.1 h1 r1
    obtain ⟨bs, q2, n2⟩ := RpAll.reads y I sb ds _ _ h'.2 h2 r2
    exact ⟨_, ReadsAll.cons q1 q2, fun h => (List.mem_append.mp h).elim n1 n2⟩
theorem RpKv.reads (y : Sy F) (I : Inv X pins σ H s) (sb : Sub F H) : ∀ (ds : List (Key × D)) (vs : List (Key × V)) (us : List (Key × Value)), pdk ds = true → RpKv X.K F vs ds → KV vs us → ∃ as, PyProof.V.PairsRead s.heap keyPy us (pyKv ds) as ∧ sysModules ∉ as
  | [], _, _, _, .nil, .nil => ⟨_, .nil, by simp⟩
  | (_, _) :: _, _, [], _, .cons _ _, r => nomatch r
  | (k, d) :: ds, _, (k', u) :: us, h, .cons h1 h2, .cons r1 r2 => by
    have h' : d.pd = true ∧ pdk ds = true := by simpa [pdk] using h
    have e : k = k' := r1.1
    subst e
    obtain ⟨as, q1, n1⟩ := Rp.reads y I sb d _ _ h'.1 h1 r1.2
    obtain ⟨bs, q2, n2⟩ := RpKv.reads y I sb ds _ _ h'.2 h2 r2
    exact ⟨_, .cons q1 q2, fun h => (List.mem_append.mp h).elim n1 n2⟩
end
/-- .. also of a list that a name owns -/
theorem Bp.reads (y : Sy F) (I : Inv X pins σ H s) (sb : Sub F H) {d : D} {v : V} {u : Value} (hp : d.pd = true) (b : Bp X.K F H v d) (r : RelV v u) : ∃ as, Reads s.heap u d.py as ∧ sysModules ∉ as := by
  cases b with
  | rp q => exact Rp.reads y I sb d v u hp q r
  | lst q p => exact Rp.reads (y.mono sb) I .refl _ _ u hp (.lst q (RpAll.mono sb _ _ p)) r
end
end L3
namespace L3
open PySem PySem.Spec PyProof.Rows L2

section
variable {X : Cx} {pa : List V}
/-! ### + - * // % ** of ints -/
def kAdd : K2 := fun a b P => match a, b with
  | .int i, .int j => P (.leaf (.int (i + j)))
  | .str x, .str y => x.length + y.length ≤ sizeLine ∧ P (.leaf (.str (x ++ y)))
  | .tup xs, .tup ys => xs.length + ys.length ≤ sizeLine ∧ P (.leaf (.tup (xs ++ ys)))
  | .lst xs, .lst ys => xs.length + ys.length ≤ sizeLine ∧ P (.ls (xs ++ ys))
  | _, _ => False
/-- list + list, wherever they stand -/
def rCatL : R2 := fun x y H Q => ∃ l b xs zs, x = .ref l ∧ y = .ref b ∧ H l = some (.lst xs) ∧ H b = some (.lst zs) ∧ xs.length + zs.length ≤ sizeLine ∧ ∀ p, H p = none → Q (.ref p) (upd H p (.lst (xs ++ zs)))
theorem op_catL : OpR X (binaryOp .Add) (rCatL) := by
  rintro pins s σ H x y v u Q I rx ry ⟨l, b, xs, zs, rfl, rfl, hx, hz, hl, q⟩
  cases rx
  cases ry
  obtain ⟨_, i1, n1, r1, e1⟩ := I.hok _ _ hx
  obtain ⟨_, i2, n2, r2, e2⟩ := I.hok _ _ hz
  refine PySem.P.add_list e1 e2 ?_ (by rw [List.size_toArray, List.size_toArray, ← r1.length, ← r2.length]; exact hl)
  rw [show i1.toArray ++ i2.toArray = (i1 ++ i2).toArray by simp]
  exact ⟨.ref _, _, I.lnew (t' := s.toks) (r1.append r2) (by rw [List.length_append]; exact hl), rfl, q _ I.fresh⟩
theorem op_addA : OpR X (binaryOp .Add) (fun x y H Q => (rI0 (fun i j => V.int (i + j)) x y H Q ∨ (∃ i j, x = .str i ∧ y = .str j ∧ i.length + j.length ≤ sizeLine ∧ Q (.str (i ++ j)) H)) ∨ (rCatA X.K x y H Q ∨ rCatL x y H Q)) :=
  (op_add.or op_add_str).or (op_catA.or op_catL)
theorem k_add : Op2 X pa (fun x y H Q => (rI0 (fun i j => V.int (i + j)) x y H Q ∨ (∃ i j, x = .str i ∧ y = .str j ∧ i.length + j.length ≤ sizeLine ∧ Q (.str (i ++ j)) H)) ∨ (rCatA X.K x y H Q ∨ rCatL x y H Q)) kAdd := by
  intro F H σ Γ R x y a b P Q o ba bb h fin
  unfold kAdd at h
  split at h
  · exact .inl (.inl ⟨_, _, ba.int, bb.int, fin _ _ (fin_leaf o (.int _) h)⟩)
  · exact .inl (.inr ⟨_, _, ba.str, bb.str, h.1, fin _ _ (fin_leaf o (.str _) h.2)⟩)
  · obtain ⟨a1, v1, e1, q1, r1⟩ := ba.sqT
    obtain ⟨a2, v2, e2, q2, r2⟩ := bb.sqT
    refine .inr (.inl ⟨a1, a2, v1, v2, e1, e2, o.sub.sqT q1, o.sub.sqT q2, by rw [r1.length, r2.length]; exact h.1, fun z => ?_, fun z z2 => ?_, fun z z2 p hp => ?_⟩)
    · subst z; cases r1
      exact fin _ _ (fin_leaf o (.tup q2 r2) (by simpa using h.2))
    · subst z2; cases r2
      exact fin _ _ (fin_leaf o (.tup q1 r1) (by simpa using h.2))
    · exact fin _ _ (fin_tup o hp (r1.append r2) h.2)
  · obtain ⟨a1, v1, e1, q1, r1⟩ := ba.rdL o.sub
    obtain ⟨a2, v2, e2, q2, r2⟩ := bb.rdL o.sub
    exact .inr (.inr ⟨a1, a2, v1, v2, e1, e2, q1, q2, by rw [r1.length, r2.length]; exact h.1, fun p hp => fin _ _ (fin_ls o hp (r1.append r2) h.2)⟩)
  · exact h.elim
/-- two ints, by a rule -/
def kI (C : Int → Int → Prop) (g : Int → Int → D) : K2 := fun a b P => match a, b with
  | .int i, .int j => C i j ∧ P (.leaf (g i j))
  | _, _ => False
theorem k_int {C : Int → Int → Prop} {g : Int → Int → V} {g' : Int → Int → D} (hg : ∀ F i j, Rp X.K F (g i j) (g' i j)) : Op2 X pa (rI C g) (kI C g') := by
  intro F H σ Γ R x y a b P Q o ba bb h fin
  unfold kI at h
  split at h
  · exact ⟨_, _, ba.int, bb.int, h.1, fin _ _ (fin_leaf o (hg F _ _) h.2)⟩
  · exact h.elim
def kI0 (g : Int → Int → D) : K2 := fun a b P => match a, b with
  | .int i, .int j => P (.leaf (g i j))
  | _, _ => False
theorem k_int0 {g : Int → Int → V} {g' : Int → Int → D} (hg : ∀ F i j, Rp X.K F (g i j) (g' i j)) : Op2 X pa (rI0 g) (kI0 g') := by
  intro F H σ Γ R x y a b P Q o ba bb h fin
  unfold kI0 at h
  split at h
  · exact ⟨_, _, ba.int, bb.int, fin _ _ (fin_leaf o (hg F _ _) h)⟩
  · exact h.elim
abbrev kSub : K2 := kI0 fun i j => .int (i - j)
theorem k_sub : Op2 X pa (rI0 fun i j => V.int (i - j)) kSub := k_int0 fun _ _ _ => .int _
abbrev kFdiv : K2 := kI CDivW fun i j => .int (i / j)
theorem k_fdiv : Op2 X pa (rI CDivW fun i j => V.int (i / j)) kFdiv := k_int fun _ _ _ => .int _
abbrev kMod : K2 := kI (fun _ j => 0 < j) fun i j => .int (i % j)
theorem k_mod : Op2 X pa (rI (fun _ j => 0 < j) fun i j => V.int (i % j)) kMod := k_int fun _ _ _ => .int _
abbrev kPow : K2 := kI CPow fun i j => .int (i ^ j.toNat)
theorem k_pow : Op2 X pa (rI CPow fun i j => V.int (i ^ j.toNat)) kPow := k_int fun _ _ _ => .int _
abbrev kLt : K2 := kI0 fun i j => .bl (decide (i < j))
theorem k_lt : Op2 X pa (rI0 fun i j => V.bl (decide (i < j))) kLt := k_int0 fun _ _ _ => .bl _
abbrev kLe : K2 := kI0 fun i j => .bl (decide (i ≤ j))
theorem k_le : Op2 X pa (rI0 fun i j => V.bl (decide (i ≤ j))) kLe := k_int0 fun _ _ _ => .bl _
abbrev kGt : K2 := kI0 fun i j => .bl (decide (j < i))
theorem k_gt : Op2 X pa (rI0 fun i j => V.bl (decide (j < i))) kGt := k_int0 fun _ _ _ => .bl _
abbrev kGe : K2 := kI0 fun i j => .bl (decide (j ≤ i))
theorem k_ge : Op2 X pa (rI0 fun i j => V.bl (decide (j ≤ i))) kGe := k_int0 fun _ _ _ => .bl _
/-! ints times, a tuple times, a list times -/
def rRepTL (K : PySem.W.Frag) : R2 := fun x y H Q => ∃ l k xs, x = .ref l ∧ y = .int k ∧ SqT K H l xs ∧ xs ≠ [] ∧ 2 ≤ k ∧ xs.length * k.toNat ≤ sizeLine ∧ ∀ p, H p = none → Q (.ref p) (upd H p (.tup (List.replicate k.toNat xs).flatten))
theorem op_repTL : OpR X (binaryOp .Mult) (rRepTL X.K) := by
  rintro pins s σ H x y v u Q I rx ry ⟨l, k, xs, rfl, rfl, hT, hne, h2, hz, q⟩
  cases rx
  obtain ⟨t, rfl⟩ := ry
  obtain ⟨its, r, ⟨⟨cls, dd, data, sl⟩, ho, hc, n, hd⟩, _⟩ := I.tuple hT
  simp only at hc hd
  subst hc hd
  have hle := r.length
  have hpos : 0 < its.length := by rw [← hle]; exact List.length_pos_iff.mpr hne
  have hi : its.toArray.isEmpty = false := by
    cases its with
    | nil => simp at hpos
    | cons _ _ => rfl
  have hsl := sizeLine_eq
  have hk : k = (k.toNat : Int) := by omega
  have hkz : k.toNat ≤ sizeLine := Nat.le_trans (Nat.le_mul_of_pos_left _ (by omega)) hz
  have hprod : ((its.toArray.size : Nat) : Int) * k ≤ 16777216 := by
    rw [hk, List.size_toArray, ← hle, ← Int.natCast_mul]
    have := Int.ofNat_le.mpr hz
    rw [hsl] at this
    exact this
  have flen : (List.replicate k.toNat its).flatten.length ≤ sizeLine := by
    rw [PyProof.Rows.lm_len_rep_flat, ← hle, Nat.mul_comm]; exact hz
  have a0 : (decide (k < -(2 ^ 63)) || decide (k ≥ 2 ^ 63)) = false := by
    rw [decide_eq_false (by omega), decide_eq_false (by omega)]; rfl
  have a1 : (its.toArray.isEmpty || k == 1) = false := by rw [hi, Bool.false_or]; exact beq_eq_false_iff_ne.mpr (by omega)
  have a2 : (decide (k ≤ 0) || its.toArray.isEmpty) = false := by rw [hi, Bool.or_false]; exact decide_eq_false (by omega)
  have a4 : Builtin.Tuple.tupleTooMany (((its.toArray.size : Nat) : Int) * k) = false := by
    unfold Builtin.Tuple.tupleTooMany
    rw [sizeLine_eq]; exact decide_eq_false (by omega)
  have fold : ∀ m : Nat, (List.foldl (fun x1 x2 => x1 ++ x2) #[] (List.replicate m its.toArray)) = (List.replicate m its).flatten.toArray := fun m => by
    have := foldl_rep its m []
    rw [List.nil_append] at this; exact this
  refine wpAny_binaryOp_repeat_ref (T := "tuple") (U := "int") (by decide) ⟨_, ho, rfl⟩ (fun s' => typeIs_int s' k t) noFill_tuple_mul F.fills_int_mul F.slot_int_rmul repeat_tuple F.slot_int_index.lookup ?_
  refine call_meets F.slot_int_rmul (typeIs_int s k t) F.entry_int_rmul (F.args_int_rmul_2 _ _) (int_rmul_tuple k t l its.toArray n dd sl) ⟨ho, rfl, ⟨_, ho, rfl⟩, ?_⟩
  refine call_meets F.slot_tuple_mul ⟨_, ho, rfl⟩ F.entry_tuple_mul (F.args_tuple_mul_2 _ _) (tuple_mulW l its.toArray n dd sl k t a0 a1 a2 (by omega) a4 (by rw [fold, List.size_toArray]; exact flen)) ⟨ho, ?_⟩
  rw [fold]
  exact ⟨.ref s.heap.objs.size, _, I.laid (t' := s.toks) (o := .tup (List.replicate k.toNat xs).flatten) (fun b ob e => Heap.get?_push_of_some _ e) (Nat.le_refl _)
    ⟨by rw [PyProof.Rows.lm_len_rep_flat, Nat.mul_comm]; exact hz, _, r.rep k.toNat, IsTup.new _ _⟩, rfl, q _ I.fresh⟩
end
end L3
namespace L3
open PySem PySem.Spec PyProof.Rows L2

section
variable {X : Cx} {pa : List V}
def kMul : K2 := fun a b P => match a, b with
  | .int i, .int j => CMulW i j ∧ P (.leaf (.int (i * j)))
  | .tup xs, .int k => (xs ≠ [] ∧ 2 ≤ k ∧ xs.length * k.toNat ≤ sizeLine) ∧ P (.leaf (.tup (List.replicate k.toNat xs).flatten))
  | .lst xs, .int k => (-(2 ^ 63) ≤ k ∧ k < 2 ^ 63 ∧ xs.length * k.toNat ≤ sizeLine) ∧ P (.ls (List.replicate k.toNat xs).flatten)
  | _, _ => False
def rRepL : R2 := fun x y H Q => ∃ l k xs, x = .ref l ∧ y = .int k ∧ H l = some (.lst xs) ∧ -(2 ^ 63) ≤ k ∧ k < 2 ^ 63 ∧ xs.length * k.toNat ≤ sizeLine ∧
  ∀ p, H p = none → Q (.ref p) (upd H p (.lst (List.replicate k.toNat xs).flatten))
theorem op_mulA : OpR X (binaryOp .Mult) (fun x y H Q => rI CMulW (fun i j => V.int (i * j)) x y H Q ∨ (rRepTL X.K x y H Q ∨ rRepL x y H Q)) := op_mulW.or (op_repTL.or op_rep)
theorem k_mul : Op2 X pa (fun x y H Q => rI CMulW (fun i j => V.int (i * j)) x y H Q ∨ (rRepTL X.K x y H Q ∨ rRepL x y H Q)) kMul := by
  intro F H σ Γ R x y a b P Q o ba bb h fin
  unfold kMul at h
  split at h
  · exact .inl ⟨_, _, ba.int, bb.int, h.1, fin _ _ (fin_leaf o (.int _) h.2)⟩
  · obtain ⟨a1, v1, e1, q1, r1⟩ := ba.sqT
    obtain ⟨⟨c1, c2, c3⟩, h⟩ := h
    exact .inr (.inl ⟨a1, _, v1, e1, bb.int, o.sub.sqT q1, fun z => c1 (by subst z; cases r1; rfl), c2, by rw [r1.length]; exact c3, fun p hp => fin _ _ (fin_tup o hp (r1.rep _) h)⟩)
  · obtain ⟨⟨c1, c2, c3⟩, h⟩ := h
    cases ba with
    | rp q =>
      cases q with
      | lst q1 r1 => exact .inr (.inr ⟨_, _, _, rfl, bb.int, o.sub _ _ q1, c1, c2, by rw [r1.length]; exact c3, fun p hp => fin _ _ (fin_ls o hp (r1.rep _) h)⟩)
    | lst q1 r1 => exact .inr (.inr ⟨_, _, _, rfl, bb.int, q1, c1, c2, by rw [r1.length]; exact c3, fun p hp => fin _ _ (fin_ls o hp (r1.rep _) h)⟩)
  · exact h.elim
end
mutual
theorem D.pl_pd : (d : D) → d.pl = true → d.pd = true
  | .non, _ => rfl
  | .bl _, _ => rfl
  | .int _, _ => rfl
  | .str _, _ => rfl
  | .tun xs, h => by rw [D.pd]; exact pls_pds xs (by simpa [D.pl] using h)
  | .tup xs, h => by rw [D.pd]; exact pls_pds xs (by simpa [D.pl] using h)
  | .lst xs, h => by rw [D.pd]; exact pls_pds xs (by simpa [D.pl] using h)
  | .dic _, h => by simp [D.pl] at h
  | .ref _, h => by simp [D.pl] at h
  | .ty _, h => by simp [D.pl] at h
  | .scr _, h => by simp [D.pl] at h
theorem pls_pds : (xs : List D) → pls xs = true → pds xs = true
  | [], _ => rfl
  | x :: xs, h => by
    have h' : x.pl = true ∧ pls xs = true := by simpa [pls] using h
    rw [pds, D.pl_pd x h'.1, pls_pds xs h'.2]; rfl
end
section
variable {X : Cx} {pa : List V}
/-! ### == != in, is None -/
/-- two values as data -/
def rD2 (X : Cx) (g : D → D → Prop) (v : D → D → V) : R2 := fun x y H Q => ∃ F a b, Sy F ∧ Sub F H ∧ Bp X.K F H x a ∧ Bp X.K F H y b ∧ g a b ∧ Q (v a b) H
def eqD (a b : D) : Bool := PyData.eqv a.py b.py
def okEq (a b : D) : Prop := a.pl = true ∧ b.pl = true ∧ min a.dep b.dep ≤ 60
theorem op_eqP (hu : X.A.units + 64 < cLine) : OpR X (compareOp .Eq) (rD2 X okEq fun a b => .bl (eqD a b)) := by
  rintro pins s σ H x y v u Q I rx ry ⟨F, a, b, y1, sb, ba, bb, ⟨h1, h2, h3⟩, q⟩
  obtain ⟨as, r1, _⟩ := ba.reads y1 I sb (D.pl_pd a h1) rx
  obtain ⟨bs, r2, _⟩ := bb.reads y1 I sb (D.pl_pd b h2) ry
  exact SeqAt.eq_plain r1 r2 (py_plain a h1) (py_plain b h2) (by rw [py_depth, py_depth]; omega) ⟨.bl _, H, I, rfl, q⟩
theorem op_neP (hu : X.A.units + 64 < cLine) : OpR X (compareOp .NotEq) (rD2 X okEq fun a b => .bl (!eqD a b)) := by
  rintro pins s σ H x y v u Q I rx ry ⟨F, a, b, y1, sb, ba, bb, ⟨h1, h2, h3⟩, q⟩
  obtain ⟨as, r1, _⟩ := ba.reads y1 I sb (D.pl_pd a h1) rx
  obtain ⟨bs, r2, _⟩ := bb.reads y1 I sb (D.pl_pd b h2) ry
  exact SeqAt.ne_plain r1 r2 (py_plain a h1) (py_plain b h2) (by rw [py_depth, py_depth]; omega) ⟨.bl _, H, I, rfl, q⟩
def kEq : K2 := fun a b P => okEq a b ∧ P (.leaf (.bl (eqD a b)))
def kNe : K2 := fun a b P => okEq a b ∧ P (.leaf (.bl (!eqD a b)))
theorem k_eq : Op2 X pa (rD2 X okEq fun a b => .bl (eqD a b)) kEq := fun F H σ Γ R x y a b P Q o ba bb h fin => ⟨F, a, b, o.sys, o.sub, ba, bb, h.1, fin _ _ (fin_leaf o (.bl _) h.2)⟩
theorem k_ne : Op2 X pa (rD2 X okEq fun a b => .bl (!eqD a b)) kNe := fun F H σ Γ R x y a b P Q o ba bb h fin => ⟨F, a, b, o.sys, o.sub, ba, bb, h.1, fin _ _ (fin_leaf o (.bl _) h.2)⟩
/-- x in a list, a tuple -/
def inD (a : D) (ds : List D) : Bool := ds.any fun d => eqD d a
def okIn (a b : D) : Prop := match b with
  | .lst ds => a.pl = true ∧ pls ds = true ∧ min (deps ds) a.dep ≤ 59
  | .tup ds => a.pl = true ∧ pls ds = true ∧ min (deps ds) a.dep ≤ 59
  | _ => False
def vIn (a b : D) : Bool := match b with
  | .lst ds => inD a ds
  | .tup ds => inD a ds
  | _ => false
theorem pys_any (g : PyData → Bool) : ∀ ds : List D, (pys ds).any g = ds.any fun d => g d.py
  | [] => rfl
  | d :: ds => by rw [pys, List.any_cons, List.any_cons, pys_any g ds]
theorem op_inP (hu : X.A.units + 64 < cLine) : OpR X (compareOp .In) (rD2 X okIn fun a b => .bl (vIn a b)) := by
  rintro pins s σ H x y v u Q I rx ry ⟨F, a, b, y1, sb, ba, bb, h, q⟩
  unfold okIn at h
  split at h
  · obtain ⟨h1, h2, h3⟩ := h
    obtain ⟨as, r1, _⟩ := ba.reads y1 I sb (D.pl_pd a h1) rx
    obtain ⟨bs, r2, _⟩ := bb.reads y1 I sb (D.pl_pd _ (by simpa [D.pl] using h2)) ry
    rw [D.py] at r2
    exact SeqAt.in_list_data r2 r1 (pys_plain _ h2) (py_plain a h1) (by rw [pys_depth, py_depth]; omega) ⟨.bl _, H, I, by rw [pys_any]; rfl, q⟩
  · obtain ⟨h1, h2, h3⟩ := h
    obtain ⟨as, r1, _⟩ := ba.reads y1 I sb (D.pl_pd a h1) rx
    obtain ⟨bs, r2, _⟩ := bb.reads y1 I sb (D.pl_pd _ (by simpa [D.pl] using h2)) ry
    rw [D.py] at r2
    exact SeqAt.in_tuple_data r2 r1 (pys_plain _ h2) (py_plain a h1) (by rw [pys_depth, py_depth]; omega) ⟨.bl _, H, I, by rw [pys_any]; rfl, q⟩
  · exact h.elim
theorem op_notInP (hu : X.A.units + 64 < cLine) : OpR X (compareOp .NotIn) (rD2 X okIn fun a b => .bl (!vIn a b)) := by
  rintro pins s σ H x y v u Q I rx ry ⟨F, a, b, y1, sb, ba, bb, h, q⟩
  unfold okIn at h
  split at h
  · obtain ⟨h1, h2, h3⟩ := h
    obtain ⟨as, r1, _⟩ := ba.reads y1 I sb (D.pl_pd a h1) rx
    obtain ⟨bs, r2, _⟩ := bb.reads y1 I sb (D.pl_pd _ (by simpa [D.pl] using h2)) ry
    rw [D.py] at r2
    exact SeqAt.notIn_list_data r2 r1 (pys_plain _ h2) (py_plain a h1) (by rw [pys_depth, py_depth]; omega) ⟨.bl _, H, I, by rw [pys_any]; rfl, q⟩
  · obtain ⟨h1, h2, h3⟩ := h
    obtain ⟨as, r1, _⟩ := ba.reads y1 I sb (D.pl_pd a h1) rx
    obtain ⟨bs, r2, _⟩ := bb.reads y1 I sb (D.pl_pd _ (by simpa [D.pl] using h2)) ry
    rw [D.py] at r2
    exact SeqAt.notIn_tuple_data r2 r1 (pys_plain _ h2) (py_plain a h1) (by rw [pys_depth, py_depth]; omega) ⟨.bl _, H, I, by rw [pys_any]; rfl, q⟩
  · exact h.elim
def kIn : K2 := fun a b P => okIn a b ∧ P (.leaf (.bl (vIn a b)))
def kNotIn : K2 := fun a b P => okIn a b ∧ P (.leaf (.bl (!vIn a b)))
theorem k_in : Op2 X pa (rD2 X okIn fun a b => .bl (vIn a b)) kIn := fun F H σ Γ R x y a b P Q o ba bb h fin => ⟨F, a, b, o.sys, o.sub, ba, bb, h.1, fin _ _ (fin_leaf o (.bl _) h.2)⟩
theorem k_notIn : Op2 X pa (rD2 X okIn fun a b => .bl (!vIn a b)) kNotIn := fun F H σ Γ R x y a b P Q o ba bb h fin => ⟨F, a, b, o.sys, o.sub, ba, bb, h.1, fin _ _ (fin_leaf o (.bl _) h.2)⟩
/-- is None -/
def D.isNon : D → Bool
  | .non => true
  | _ => false
def kIsN : K2 := fun a b P => match b with
  | .non => P (.leaf (.bl a.isNon))
  | _ => False
def kNotN : K2 := fun a b P => match b with
  | .non => P (.leaf (.bl (!a.isNon)))
  | _ => False
theorem Bp.isNon {K : PySem.W.Frag} {F H : Hp} {v : V} {d : D} (b : Bp K F H v d) : decide (v = .non) = d.isNon := by
  cases b with
  | rp q => cases q <;> simp [D.isNon]
  | lst _ _ => simp [D.isNon]
theorem k_isN : Op2 X pa (fun x y H Q => y = .non ∧ Q (.bl (decide (x = .non))) H) kIsN := by
  intro F H σ Γ R x y a b P Q o ba bb h fin
  unfold kIsN at h
  split at h
  · exact ⟨bb.non, by rw [ba.isNon]; exact fin _ _ (fin_leaf o (.bl _) h)⟩
  · exact h.elim
theorem k_notN : Op2 X pa (fun x y H Q => y = .non ∧ Q (.bl (!decide (x = .non))) H) kNotN := by
  intro F H σ Γ R x y a b P Q o ba bb h fin
  unfold kNotN at h
  split at h
  · exact ⟨bb.non, by rw [ba.isNon]; exact fin _ _ (fin_leaf o (.bl _) h)⟩
  · exact h.elim
end
end L3
namespace L3
open PySem PySem.Spec PyProof.Rows L2

section
variable {X : Cx} {pa : List V}
/-! ### isinstance -/
def D.tn : D → Option String
  | .non => some "NoneType"
  | .bl _ => some "bool"
  | .int _ => some "int"
  | .str _ => some "str"
  | .tup _ => some "tuple"
  | .tun _ => some "tuple"
  | .lst _ => some "list"
  | .dic _ => some "dict"
  | _ => none
def tyOk (n : String) : Bool := n == "int" || n == "bool" || n == "str" || n == "tuple" || n == "list" || n == "dict"
def isT (d : D) (n : String) : Bool := match d with
  | .bl _ => n == "bool" || n == "int"
  | .int _ => n == "int"
  | .str _ => n == "str"
  | .tup _ => n == "tuple"
  | .tun _ => n == "tuple"
  | .lst _ => n == "list"
  | .dic _ => n == "dict"
  | _ => false
theorem kit_bi (K : PySem.W.Frag) {d : D} {t n : String} (ht : d.tn = some t) (hn : tyOk n = true) : PySem.W.kitOne K (.type t) (.type n) = some (isT d n) := by
  simp only [tyOk, Bool.or_eq_true, beq_iff_eq] at hn
  cases d <;> simp only [D.tn, Option.some.injEq, reduceCtorEq] at ht <;> subst ht <;> rcases hn with ((((rfl | rfl) | rfl) | rfl) | rfl) | rfl <;> first | rfl | decide +kernel

theorem Bp.tyx {K : PySem.W.Frag} {F H : Hp} (sb : Sub F H) {v : V} {d : D} {t : String} (b : Bp K F H v d) (h : d.tn = some t) : TyX K H v (.type t) := by
  cases b with
  | rp q =>
    cases q with
    | non => cases h; exact .base .non
    | bl x => cases h; exact .base (.bl x)
    | int x => cases h; exact .base (.int x)
    | str x => cases h; exact .base (.str x)
    | ref a => cases h
    | ty n => cases h
    | tup q r =>
      cases h
      rcases sb.sqT q with (q | ⟨ob, q⟩) | ⟨ob, its, m, e, c, _⟩
      · exact .base (.tup q)
      · exact .fTuple q
      · exact .kTuple e c
    | lst q r => cases h; exact .base (.lst (sb _ _ q))
    | dic q r =>
      cases h
      rcases sb.rd q with q | ⟨ob, q⟩
      · exact .base (.dK q)
      · exact .fDict q
    | scr q => cases h
    | exc q r => cases h
    | fn q => cases h
    | dil q r => cases h
    | tun q n r => cases h; exact .fTuple (sb _ _ q)
  | lst q r => cases h; exact .base (.lst q)
def kIsi : KN := fun ds P => match ds with
  | [d, .ty n] => tyOk n = true ∧ (∃ t, d.tn = some t) ∧ P (.leaf (.bl (isT d n)))
  | _ => False
theorem k_isi : OpN X pa (rIsi X.K) kIsi := by
  intro F H σ Γ R xs ds P Q o bs h fin
  unfold kIsi at h
  split at h
  · obtain ⟨hn, ⟨t, ht⟩, h⟩ := h
    cases bs with
    | cons b1 bs =>
      cases bs with
      | cons b2 bs =>
        cases bs
        rw [b2.ty]
        exact ⟨_, _, _, _, _, rfl, .ty _, b1.tyx o.sub ht, kit_bi _ ht hn, fin _ _ (fin_leaf o (.bl _) h)⟩
  · exact h.elim
/-! ### repr, str -/
def okRepr (d : D) : Prop := d.pd = true ∧ d.py.showable = true ∧ d.dep ≤ 60 ∧ d.py.shown.length ≤ sizeLine
def rD1 (X : Cx) (g : D → Prop) (v : D → V) : List V → Hp → VK → Prop := fun xs H Q => ∃ F d x, xs = [x] ∧ Sy F ∧ Sub F H ∧ Bp X.K F H x d ∧ g d ∧ Q (v d) H
theorem pyd_none : ("None" : Str) = PyData.none.shown := by rw [PyData.shown]
theorem call_reprP (hu : X.A.units + 64 < cLine) (gd : X.A.guards = some []) : CallR X (.builtin "repr") (rD1 X okRepr fun d => .str d.py.shown) := by
  rintro pins s σ H xs us Q I r ⟨F, d, x, rfl, y1, sb, b, ⟨h1, h2, h3, h4⟩, q⟩
  obtain ⟨u, rfl, rx⟩ := vals1 r
  obtain ⟨as, rd, hn⟩ := b.reads y1 I sb h1 rx
  dsimp only at q
  have obj : ∀ a, u = .ref a → wpAny (model X.prog X.w) X.A (call (.builtin "repr") [u]) (EP X pins σ Q) X.xe s := by
    rintro a rfl
    exact repr_of_reads' (h₀ := s.heap) rd h2 (fun _ => hn) gd (by rw [py_depth]; omega) (fun _ _ e => e) (fun h' u tk hk => ⟨.str _, H, I.kept (t' := tk) hk, ⟨_, rfl⟩, q⟩) h4
  cases d with
  | non =>
    cases rd
    refine PySem.P.repr_of_none ⟨.str _, H, I.tok _, ⟨_, rfl⟩, ?_⟩
    have : D.non.py.shown = "None" := by rw [D.py, PyData.shown]
    rw [this] at q; exact q
  | bl x =>
    cases rd
    refine PySem.P.repr_of_bool ⟨.str _, H, I.tok _, ⟨_, rfl⟩, ?_⟩
    have : (D.bl x).py.shown = if x then "True" else "False" := by cases x <;> simp [D.py, PyData.shown]
    rw [this] at q
    cases x <;> exact q
  | int i =>
    cases rd with
    | int _ t =>
      rw [D.py, PyData.showable] at h2
      refine PySem.P.repr_of_int (of_decide_eq_true h2) ⟨.str _, H, I.tok _, ⟨_, rfl⟩, ?_⟩
      have : (D.int i).py.shown = toString i := by rw [D.py, PyData.shown]
      rw [this] at q; exact q
  | str i =>
    cases rd with
    | str _ t =>
      have : (D.str i).py.shown = reprText i := by rw [D.py, PyData.shown]
      rw [this] at q h4
      exact PySem.P.repr_of_str ⟨.str _, H, I.tok _, ⟨_, rfl⟩, q⟩ h4
  | tup xs => cases rd with | tuple e c dd rr => exact obj _ rfl
  | lst xs => cases rd with | list e c dd rr => exact obj _ rfl
  | dic kvs => cases rd with | dict e c dd r1 r2 => exact obj _ rfl
  | ref a => simp [D.pd] at h1
  | ty a => simp [D.pd] at h1
  | scr a => simp [D.pd] at h1
  | exc a b c => simp [D.pd] at h1
  | fn x => simp [D.pd] at h1
  | dil x => simp [D.pd] at h1
  | tun xs => cases rd with | tuple e c dd rr => exact obj _ rfl
/-- repr as a text -/
def D.rep (d : D) : Str := d.py.shown
def kRepr : KN := fun ds P => match ds with
  | [d] => okRepr d ∧ P (.leaf (.str d.rep))
  | _ => False
theorem k_repr : OpN X pa (rD1 X okRepr fun d => .str d.py.shown) kRepr := by
  intro F H σ Γ R xs ds P Q o bs h fin
  unfold kRepr at h
  split at h
  · cases bs with
    | cons b1 bs =>
      cases bs
      exact ⟨F, _, _, rfl, o.sys, o.sub, b1, h.1, fin _ _ (fin_leaf o (.str _) h.2)⟩
  · exact h.elim
/-- str of an int -/
def kStrI : KN := fun ds P => match ds with
  | [.int i] => i.natAbs.log2 < 1920 ∧ P (.leaf (.str (toString i)))
  | _ => False
theorem k_strI : OpN X pa (fun xs H Q => ∃ i, xs = [.int i] ∧ i.natAbs.log2 < 1920 ∧ Q (.str (toString i)) H) kStrI := by
  intro F H σ Γ R xs ds P Q o bs h fin
  unfold kStrI at h
  split at h
  · cases bs with
    | cons b1 bs =>
      cases bs
      exact ⟨_, by rw [b1.int], h.1, fin _ _ (fin_leaf o (.str _) h.2)⟩
  · exact h.elim
/-! str of anything -/
def okStr (d : D) : Prop := match d with
  | .int i => i.natAbs.log2 < 1920
  | .bl _ => True
  | .non => True
  | .str _ => True
  | _ => False
def D.strOf (d : D) : Str := match d with
  | .int i => toString i
  | .bl b => if b then "True" else "False"
  | .non => "None"
  | .str x => x
  | _ => ""
/-! ### int, abs, len -/
def kInt1 : KN := fun ds P => match ds with
  | [.int i] => P (.leaf (.int i))
  | [.bl b] => P (.leaf (.int (if b then 1 else 0)))
  | _ => False
theorem k_int1 : OpN X pa (fun xs H Q => (∃ i, xs = [.int i] ∧ Q (.int i) H) ∨ ∃ k, xs = [.bl k] ∧ Q (.int (if k then 1 else 0)) H) kInt1 := by
  intro F H σ Γ R xs ds P Q o bs h fin
  unfold kInt1 at h
  split at h
  · cases bs with
    | cons b1 bs => cases bs; exact .inl ⟨_, by rw [b1.int], fin _ _ (fin_leaf o (.int _) h)⟩
  · cases bs with
    | cons b1 bs => cases bs; exact .inr ⟨_, by rw [b1.bl], fin _ _ (fin_leaf o (.int _) h)⟩
  · exact h.elim
def kAbs : KN := fun ds P => match ds with
  | [.int i] => P (.leaf (.int (if i < 0 then -i else i)))
  | _ => False
theorem k_abs : OpN X pa (fun xs H Q => ∃ i, xs = [.int i] ∧ Q (.int (if i < 0 then -i else i)) H) kAbs := by
  intro F H σ Γ R xs ds P Q o bs h fin
  unfold kAbs at h
  split at h
  · cases bs with
    | cons b1 bs => cases bs; exact ⟨_, by rw [b1.int], fin _ _ (fin_leaf o (.int _) h)⟩
  · exact h.elim
def kMin2 : KN := fun ds P => match ds with
  | [.int i, .int j] => P (.leaf (.int (if j < i then j else i)))
  | _ => False
theorem k_min2 : OpN X pa (fun xs H Q => ∃ i j, xs = [.int i, .int j] ∧ Q (.int (if j < i then j else i)) H) kMin2 := by
  intro F H σ Γ R xs ds P Q o bs h fin
  unfold kMin2 at h
  split at h
  · cases bs with
    | cons b1 bs => cases bs with
      | cons b2 bs => cases bs; exact ⟨_, _, by rw [b1.int, b2.int], fin _ _ (fin_leaf o (.int _) h)⟩
  · exact h.elim
def kMax2 : KN := fun ds P => match ds with
  | [.int i, .int j] => P (.leaf (.int (if j > i then j else i)))
  | _ => False
theorem k_max2 : OpN X pa (fun xs H Q => ∃ i j, xs = [.int i, .int j] ∧ Q (.int (if j > i then j else i)) H) kMax2 := by
  intro F H σ Γ R xs ds P Q o bs h fin
  unfold kMax2 at h
  split at h
  · cases bs with
    | cons b1 bs => cases bs with
      | cons b2 bs => cases bs; exact ⟨_, _, by rw [b1.int, b2.int], fin _ _ (fin_leaf o (.int _) h)⟩
  · exact h.elim
def kLen : KN := fun ds P => match ds with
  | [.tup xs] => P (.leaf (.int xs.length))
  | [.lst xs] => P (.leaf (.int xs.length))
  | [.scr xs] => P (.leaf (.int xs.length))
  | [.str x] => x.length ≤ sizeLine ∧ P (.leaf (.int x.length))
  | _ => False
theorem k_len : OpN X pa (fun xs H Q => ∃ x n, xs = [x] ∧ LenV X.K x H n ∧ Q (.int n) H) kLen := by
  intro F H σ Γ R xs ds P Q o bs h fin
  unfold kLen at h
  split at h
  · cases bs with
    | cons b1 bs =>
      cases bs
      obtain ⟨a, vs, e, q, r⟩ := b1.sqT
      exact ⟨_, _, rfl, by rw [e]; exact .inr ⟨vs, o.sub.sqT q, rfl⟩, by rw [r.length]; exact fin _ _ (fin_leaf o (.int _) h)⟩
  · cases bs with
    | cons b1 bs =>
      cases bs
      obtain ⟨a, vs, e, q, r⟩ := b1.sqL o.sub
      exact ⟨_, _, rfl, by rw [e]; exact .inl ⟨vs, q, rfl⟩, by rw [r.length]; exact fin _ _ (fin_leaf o (.int _) h)⟩
  · cases bs with
    | cons b1 bs =>
      cases bs
      cases b1 with
      | rp q =>
        cases q with
        | scr q => exact ⟨_, _, rfl, .inl ⟨_, o.sub.sqL q, rfl⟩, by rw [List.length_map]; exact fin _ _ (fin_leaf o (.int _) h)⟩
  · cases bs with
    | cons b1 bs => cases bs; exact ⟨_, _, rfl, by rw [b1.str]; exact ⟨h.1, rfl⟩, fin _ _ (fin_leaf o (.int _) h.2)⟩
  · exact h.elim
/-! ### tuple, list, all, any -/
def kTuple : KN := fun ds P => match ds with
  | [.tup xs] => P (.leaf (.tup xs))
  | [.lst xs] => P (.leaf (.tup xs))
  | _ => False
theorem k_tuple : OpN X pa (fun xs H Q => ∃ p ys, xs = [.ref p] ∧ ((SqL X.K H p ys ∧ ∀ l, H l = none → Q (.ref l) (upd H l (.tup ys))) ∨ (SqT X.K H p ys ∧ Q (.ref p) H))) kTuple := by
  intro F H σ Γ R xs ds P Q o bs h fin
  unfold kTuple at h
  split at h
  · cases bs with
    | cons b1 bs =>
      cases bs
      obtain ⟨a, vs, e, q, r⟩ := b1.sqT
      exact ⟨a, vs, by rw [e], .inr ⟨o.sub.sqT q, fin _ _ (fin_leaf o (.tup q r) h)⟩⟩
  · cases bs with
    | cons b1 bs =>
      cases bs
      obtain ⟨a, vs, e, q, r⟩ := b1.sqL o.sub
      exact ⟨a, vs, by rw [e], .inl ⟨q, fun l hl => fin _ _ (fin_tup o hl r h)⟩⟩
  · exact h.elim
def kList : KN := fun ds P => match ds with
  | [.tup xs] => P (.ls xs)
  | [.lst xs] => P (.ls xs)
  | _ => False
theorem k_list : OpN X pa (fun xs H Q => ∃ p ys, xs = [.ref p] ∧ (SqL X.K H p ys ∨ SqT X.K H p ys) ∧ ∀ l, H l = none → Q (.ref l) (upd H l (.lst ys))) kList := by
  intro F H σ Γ R xs ds P Q o bs h fin
  unfold kList at h
  split at h
  · cases bs with
    | cons b1 bs =>
      cases bs
      obtain ⟨a, vs, e, q, r⟩ := b1.sqT
      exact ⟨a, vs, by rw [e], .inr (o.sub.sqT q), fun l hl => fin _ _ (fin_ls o hl r h)⟩
  · cases bs with
    | cons b1 bs =>
      cases bs
      obtain ⟨a, vs, e, q, r⟩ := b1.sqL o.sub
      exact ⟨a, vs, by rw [e], .inl q, fun l hl => fin _ _ (fin_ls o hl r h)⟩
  · exact h.elim
/-- a list of truth values -/
def bls : List D → Option (List Bool)
  | [] => some []
  | .bl b :: r => (bls r).map (b :: ·)
  | _ :: _ => none
theorem bls_map : ∀ bs : List Bool, bls (bs.map .bl) = some bs
  | [] => rfl
  | b :: bs => by rw [List.map_cons, bls, bls_map bs]; rfl
theorem bls_rp {K : PySem.W.Frag} {F : Hp} : ∀ {ds : List D} {bs : List Bool} {vs : List V}, bls ds = some bs → RpAll K F vs ds → vs = bs.map V.bl
  | [], _, _, e, .nil => by cases e; rfl
  | .bl b :: r, bs, _, e, .cons q p => by
    rw [bls] at e
    cases e0 : bls r with
    | none => rw [e0] at e; cases e
    | some cs =>
      rw [e0] at e
      cases e
      cases q
      rw [bls_rp e0 p]; rfl
def kAll : KN := fun ds P => match ds with
  | [.lst xs] => ∃ bs, bls xs = some bs ∧ P (.leaf (.bl (bs.all id)))
  | _ => False
theorem k_all : OpN X pa (rAll X.K) kAll := by
  intro F H σ Γ R xs ds P Q o bs h fin
  unfold kAll at h
  split at h
  · obtain ⟨cs, e0, h⟩ := h
    cases bs with
    | cons b1 bs =>
      cases bs
      obtain ⟨a, vs, e, q, r⟩ := b1.sqL o.sub
      rw [bls_rp e0 r] at q
      exact ⟨a, cs, by rw [e], q, fin _ _ (fin_leaf o (.bl _) h)⟩
  · exact h.elim
def kAny : KN := fun ds P => match ds with
  | [.lst xs] => ∃ bs, bls xs = some bs ∧ P (.leaf (.bl (bs.any id)))
  | _ => False
theorem k_any : OpN X pa (rAny X.K) kAny := by
  intro F H σ Γ R xs ds P Q o bs h fin
  unfold kAny at h
  split at h
  · obtain ⟨cs, e0, h⟩ := h
    cases bs with
    | cons b1 bs =>
      cases bs
      obtain ⟨a, vs, e, q, r⟩ := b1.sqL o.sub
      rw [bls_rp e0 r] at q
      exact ⟨a, cs, by rw [e], q, fin _ _ (fin_leaf o (.bl _) h)⟩
  · exact h.elim
/-! ### xs[i] -/
def kIx : K2 := fun a b P => match a, b with
  | .tup xs, .int i => ∃ d, atI xs i = some d ∧ P (.leaf d)
  | .lst xs, .int i => ∃ d, atI xs i = some d ∧ P (.leaf d)
  | .str z, .int i => ∃ c, z.length ≤ sizeLine ∧ atI z.cps.toList i = some c ∧ P (.leaf (.str ⟨#[c]⟩))
  | _, _ => False
theorem RpAll.at {K : PySem.W.Frag} {F : Hp} {vs : List V} {ds : List D} {i : Int} {d : D} (r : RpAll K F vs ds) (h : atI ds i = some d) : ∃ v, atI vs i = some v ∧ Rp K F v d := by
  unfold atI at h ⊢
  rw [r.length]
  cases e : ixN ds.length i with
  | none => rw [e] at h; cases h
  | some j =>
    rw [e] at h
    obtain ⟨v, e1, e2⟩ := r.get (i := j) h
    exact ⟨v, e1, e2⟩
theorem k_ix : Op2 X pa (rIx X.K) kIx := by
  intro F H σ Γ R x y a b P Q o ba bb h fin
  unfold kIx at h
  split at h
  · obtain ⟨d, e, h⟩ := h
    obtain ⟨a1, v1, e1, q1, r1⟩ := ba.sqT
    obtain ⟨v, e2, rv⟩ := r1.at e
    exact .inr (.inl ⟨a1, v1, _, v, e1, bb.int, o.sub.sqT q1, e2, fin _ _ (fin_leaf o rv h)⟩)
  · obtain ⟨d, e, h⟩ := h
    obtain ⟨a1, v1, e1, q1, r1⟩ := ba.sqL o.sub
    obtain ⟨v, e2, rv⟩ := r1.at e
    exact .inl ⟨a1, v1, _, v, e1, bb.int, q1, e2, fin _ _ (fin_leaf o rv h)⟩
  · obtain ⟨c, hz, e, h⟩ := h
    exact .inr (.inr ⟨_, _, c, ba.str, bb.int, hz, e, fin _ _ (fin_leaf o (.str _) h)⟩)
  · exact h.elim
end
end L3
namespace L3
open PySem PySem.Spec PyProof.Rows L2

/-! ### slices -/
abbrev SO := List S → (Option Int → List S → Prop) → Xk → Prop
def tP (K : PySem.W.Frag) (pa : List V) (W : WX) (g : SO) : TO := fun σ H Q => ∃ F Γ R Ex Kc, OkF K pa F H σ Γ R ∧ XL K pa W σ F H R Ex ∧ g Γ Kc Ex ∧
  ∀ i Γ', Kc i Γ' → ∀ F' H' R', OkF K pa F' H' σ Γ' R' → Stp F H R F' H' R' [] → Q i H'
structure OJ (X : Cx) (pa : List V) (e : Option Expr) (g : SO) : Prop where
  run : ∀ W, Takes X W → PO X e (tP X.K pa W g)
@[simp] def pNone : SO := fun Γ κ _ => κ none Γ
@[simp] def pSome (ga : SA) : SO := fun Γ κ Ex => ga Γ (fun a Γ1 => rdK Γ1 a fun d => match d with | .int i => κ (some i) Γ1 | _ => False) Ex
section
variable {X : Cx} {pa : List V} {pos p2 : Pos} {a e : Expr} {lo hi : Option Expr} {ga : SA} {gl gh : SO}
theorem oj_none : OJ X pa none pNone := ⟨fun W tk => ⟨fun pins s σ H Q I ⟨F, Γ, R, Ex, Kc, o, xl, q, k⟩ => po_none.run pins s σ H Q I (k _ _ q F H R o .refl)⟩⟩
theorem oj_some (ha : AJ X pa a ga) : OJ X pa (some a) (pSome ga) := ⟨fun W tk => ⟨fun pins s σ H Q I ⟨F, Γ, R, Ex, Kc, o, xl, q, k⟩ => (po_some (ha.run W tk)).run pins s σ H Q I
  ⟨F, Γ, R, Ex, _, o, xl, q, fun y Γ1 h1 v F1 H1 R1 o1 s1 a1 => by
    obtain ⟨d, b, h2⟩ := rdK_ok o1 a1 h1
    split at h2
    · exact ⟨_, b.int, k _ _ h2 F1 H1 R1 o1 s1⟩
    · exact h2.elim⟩⟩⟩
abbrev K3 := D → Option Int → Option Int → (O → Prop) → Prop
def Op3 (X : Cx) (pa : List V) (r : V → Option Int → Option Int → Hp → VK → Prop) (k : K3) : Prop := ∀ F H σ Γ R x a l u (P : O → Prop) (Q : VK), OkF X.K pa F H σ Γ R → Bp X.K F H x a → k a l u P → (∀ v H', Fin X.K pa F H σ Γ R P v H' → Q v H') → r x l u H Q
@[simp] def s3 (ga : SA) (gl gh : SO) (k : K3) : SE := fun Γ κ Ex => ga Γ (fun a Γ1 => gl Γ1 (fun l Γ2 => gh Γ2 (fun u Γ3 => rdK Γ3 a fun d => k d l u fun t => κ t Γ3) Ex) Ex) Ex
theorem ej_slice {r : V → Option Int → Option Int → Hp → VK → Prop} {k : K3} (hr : SlR X r) (hk : Op3 X pa r k) (ha : AJ X pa e ga) (hl : OJ X pa lo gl) (hh : OJ X pa hi gh) : EJ X pa (.Subscript e (.Slice lo hi none p2) pos) (s3 ga gl gh k) := ⟨fun W tk =>
  PE.imp (pe_slice hr (ha.run W tk) (hl.run W tk) (hh.run W tk)) fun σ H Q ⟨F, Γ, R, Ex, Kc, o, xl, q, kk⟩ =>
    ⟨F, Γ, R, Ex, _, o, xl, q, fun ar Γ1 h1 v F1 H1 R1 o1 s1 a1 => ⟨F1, Γ1, R1, Ex, _, o1, xl.step s1, h1, fun l Γ2 h2 F2 H2 R2 o2 s2 => ⟨F2, Γ2, R2, Ex, _, o2, (xl.step s1).step s2, h2, fun u Γ3 h3 F3 H3 R3 o3 s3 => by
      obtain ⟨d, b, h3⟩ := rdK_ok o3 (a1.mono (s2.sub.trans s3.sub)) h3
      exact hk F3 H3 σ Γ3 R3 v d l u _ Q o3 b h3 fun v' H' ⟨t, F', R', r', o', s', x', p⟩ => kk _ _ p v' F' H' R' r' o' (((s1.trans s2).trans s3).trans s') x'⟩⟩⟩⟩
/-- the part from lo to hi -/
def cut {α : Type} (xs : List α) (lo hi : Option Int) : List α := (xs.drop (HT.sIx xs.length 0 lo)).take (HT.sIx xs.length xs.length hi - HT.sIx xs.length 0 lo)
theorem RpAll.cut {K : PySem.W.Frag} {F : Hp} {vs : List V} {ds : List D} (r : RpAll K F vs ds) (lo hi : Option Int) : RpAll K F (cutV vs lo hi) (cut ds lo hi) := by
  unfold cutV L3.cut
  rw [r.length]
  exact (r.drop _).take _
def kSl : K3 := fun a l u P => match a with
  | .tup xs => P (.leaf (.tup (cut xs l u)))
  | .lst xs => P (.ls (cut xs l u))
  | .scr xs => P (.ls ((cut xs l u).map .int))
  | _ => False
theorem cut_whole {α : Type} {xs : List α} {lo hi : Option Int} (h : HT.sIx xs.length 0 lo = 0 ∧ HT.sIx xs.length xs.length hi = xs.length) : cut xs lo hi = xs := by
  unfold cut
  rw [h.1, h.2]
  simp
theorem sl_seq : SlR X (fun x lo hi H Q => rSlA X.K x lo hi H Q ∨ rSlL X.K x lo hi H Q) := sl_tupA.or sl_list
theorem cut_map {α β : Type} (f : α → β) (xs : List α) (lo hi : Option Int) : cut (xs.map f) lo hi = (cut xs lo hi).map f := by
  unfold cut
  rw [List.length_map, List.map_take, List.map_drop]
theorem k_sl : Op3 X pa (fun x lo hi H Q => rSlA X.K x lo hi H Q ∨ rSlL X.K x lo hi H Q) kSl := by
  intro F H σ Γ R x a l u P Q o ba h fin
  unfold kSl at h
  split at h
  · obtain ⟨a1, v1, e1, q1, r1⟩ := ba.sqT
    refine .inl ⟨a1, v1, e1, o.sub.sqT q1, fun w => ?_, fun w p hp => fin _ _ (fin_tup o hp (r1.cut l u) h)⟩
    rw [r1.length] at w
    rw [cut_whole w] at h
    exact fin _ _ (fin_leaf o (.tup q1 r1) h)
  · obtain ⟨a1, v1, e1, q1, r1⟩ := ba.sqL o.sub
    exact .inr ⟨a1, v1, e1, q1, fun p hp => fin _ _ (fin_ls o hp (r1.cut l u) h)⟩
  · cases ba with
    | rp q =>
      cases q with
      | scr q =>
        refine .inr ⟨_, _, rfl, o.sub.sqL q, fun p hp => fin _ _ (fin_ls o hp ((rp_ints _).cut l u) ?_)⟩
        rw [cut_map]
        exact h
  · exact h.elim
end
/-! t[::-1] -/
section
open HT
variable {prog : Program} {w : World} {A : Around} {E : Value → Shared → Prop} {s : Shared}
theorem sliceApplied_rev {sl : Addr} {n : Nat} {v1 v2 v3 : Value} {Q : Int × Int × Nat → Shared → Prop} (hs : s.heap.IsSliceOf sl v1 v2 v3) (p1 : IsPart v1 none) (p2 : IsPart v2 none) (p3 : IsPart v3 (some (-1)))
    (h : Q ((n : Int) - 1, -1, n) s) : wpAny (model prog w) A (Builtin.Slice.sliceApplied (.ref sl) (pure (n : Int))) Q E s := by
  obtain ⟨os, hos, _, hds⟩ := hs
  unfold Builtin.Slice.sliceApplied Builtin.Slice.sliceFields
  refine wpAny_bind (wpAny_bind (wpAny_field hos hds (x := v1) rfl (wpAny_bind (wpAny_field hos hds (x := v2) rfl (wpAny_bind (wpAny_field hos hds (x := v3) rfl (wpAny_pure ?_)))))))
  refine wpAny_bind (slicePart_ p3 ?_)
  show wpAny _ _ (if ((-1 : Int) == 0) = true then _ else _) _ _ s
  rw [if_neg (by decide)]
  refine wpAny_bind (slicePart_ p1 (wpAny_bind (slicePart_ p2 (wpAny_bind (wpAny_pure ?_)))))
  show wpAny _ _ (pure ((n : Int) - 1, (-1 : Int), Builtin.Slice.slicePlaces ((n : Int) - 1) (-1) (-1))) _ _ s
  have : Builtin.Slice.slicePlaces ((n : Int) - 1) (-1) (-1) = n := by
    unfold Builtin.Slice.slicePlaces
    simp only [show ¬ ((-1 : Int) > 0) by decide, if_false, Int.neg_neg, Int.ediv_one]
    split <;> omega
  rw [this]
  exact wpAny_pure h
theorem fm_ext {α β : Type} {f g : α → Option β} : ∀ {l : List α}, (∀ x ∈ l, f x = g x) → l.filterMap f = l.filterMap g
  | [], _ => rfl
  | x :: l, h => by
    rw [List.filterMap_cons, List.filterMap_cons, h x List.mem_cons_self, fm_ext fun y hy => h y (List.mem_cons_of_mem _ hy)]
theorem rev_pick (xs : Array Value) : ((List.range xs.size).filterMap fun (k : Nat) => xs[((xs.size : Int) - 1 + (k : Int) * (-1)).toNat]?) = xs.toList.reverse := by
  have e : ∀ k ∈ List.range xs.size, xs[((xs.size : Int) - 1 + (k : Int) * (-1)).toNat]? = (xs[·]?) (xs.size - 1 - k) := fun k hk => by
    have : ((xs.size : Int) - 1 + (k : Int) * (-1)).toNat = xs.size - 1 - k := by
      have := List.mem_range.mp hk
      omega
    rw [this]
  rw [fm_ext e]
  have := congrArg List.reverse (PySem.W.krv_all xs)
  rw [← List.filterMap_reverse, ← PySem.W.krv_range, List.filterMap_map] at this
  exact this
theorem getItem_tuple_rev {t sl : Addr} {items : Array Value} {v1 v2 v3 : Value} {Q : Value → Shared → Prop} (ht : IsTup s.heap t items) (hs : s.heap.IsSliceOf sl v1 v2 v3) (p1 : IsPart v1 none) (p2 : IsPart v2 none) (p3 : IsPart v3 (some (-1)))
    (h : Q (.ref s.heap.objs.size) { s with heap := s.heap.push { cls := .type "tuple", data := .seq items.toList.reverse.toArray } })
    (hsz : items.size ≤ sizeLine) : wpAny (model prog w) A (getItem (.ref t) (.ref sl)) Q E s := by
  have fits : sizeOk (.seq items.toList.reverse.toArray) := by
    show items.toList.reverse.toArray.size ≤ sizeLine
    simpa using hsz
  have isSl : s.TypeIs (.ref sl) "slice" := let ⟨os, e, c, _⟩ := hs; ⟨os, e, c⟩
  unfold getItem
  try with_reducible refine wpAny_holding ?_
  first | refine wpAny_bind (wpAny_pure ?_) | skip
  refine wpAny_bind (wpAny_sequenceKey ht.typeIs (by decide) ?_)
  refine wpAny_bind (wpAny_callSpecial?_slot (name := Str.ofString "__getitem__") ht.typeIs PyProof.Rows.slot_tuple_getitem
    (wpAny_call_entry PyProof.Rows.slot_tuple_getitem ht.typeIs entry_tuple_getitem ?_ (args_tuple_getitem _ _)))
  show wpAny _ _ (Builtin.Tuple.tupleItemsOf (.ref t) >>= _) _ _ s
  refine wpAny_bind (tupleItemsOf_ ht (wpAny_bind (wpAny_typeOf isSl ?_)))
  rw [if_pos (by decide)]
  refine wpAny_bind (sliceApplied_rev hs p1 p2 p3 ?_)
  show wpAny _ _ (if (((items.size : Int) - 1 == 0) && ((-1 : Int) == 1) && (items.size == items.size)) = true then _ else _) _ _ s
  rw [if_neg (by simp), rev_pick]
  first
    | exact wpAny_bind (m := Builtin.Tuple.tupleExact _) (wpAny_newObj_type (wpAny_pure ⟨_, rfl, wpAny_pure h⟩) fits)
    | exact wpAny_bind (m := Builtin.Tuple.tupleExact _) (wpAny_newObj_type (wpAny_bind (wpAny_pure (wpAny_pure ⟨_, rfl, wpAny_pure h⟩))) fits)
    | exact wpAny_bind (wpAny_bind (m := Builtin.Tuple.tupleExact _) (wpAny_newObj_type (wpAny_pure (wpAny_pure ⟨_, rfl, wpAny_pure h⟩)) fits))
    | exact wpAny_bind (wpAny_bind (m := Builtin.Tuple.tupleExact _) (wpAny_newObj_type (wpAny_pure ⟨_, rfl, wpAny_pure h⟩) fits))
end
end L3
namespace L3
open PySem PySem.Spec PyProof.Rows L2

/-! ### things within a thing: x[c], x[c][e], x[c][e] = .., x[c].pop(0); a display of things -/
section
variable {K : PySem.W.Frag} {pa : List V} {F F' H H' : Hp} {σ : Sg} {Γ : List S} {R : Nat → List Addr}
theorem Owns.get : ∀ {ts : List O} {vs : List V} {r : List Addr} {c : Nat} {t : O}, Owns K F H vs ts r → ts[c]? = some t → ∃ v r', vs[c]? = some v ∧ Own K F H v t r' ∧ ∀ a ∈ r', a ∈ r
  | [], _, _, _, _, .nil, e => by simp at e
  | t :: ts, _, _, 0, _, .cons q p n, e => by simp at e; subst e; exact ⟨_, _, rfl, q, fun a ha => List.mem_append_left _ ha⟩
  | t :: ts, _, _, c + 1, _, .cons q p n, e => by
    obtain ⟨v, r', h1, h2, h3⟩ := Owns.get (c := c) p (by simpa using e)
    exact ⟨v, r', by simpa using h1, h2, fun a ha => List.mem_append_right _ (h3 a ha)⟩
theorem Owns.setLeaf : ∀ {ts : List O} {vs : List V} {r : List Addr} {c : Nat} {d0 d : D} {v : V}, Owns K F H vs ts r → ts[c]? = some (.leaf d0) → Rp K F v d → Owns K F H (vs.set c v) (ts.set c (.leaf d)) r
  | [], _, _, _, _, _, _, .nil, e, _ => by simp at e
  | t :: ts, _, _, 0, d0, _, _, .cons q p n, e, rp => by
    have e : t = .leaf d0 := by simpa using e
    subst e
    cases q with
    | leaf q => exact .cons (.leaf rp) p n
  | t :: ts, _, _, c + 1, _, _, _, .cons q p n, e, rp => .cons q (Owns.setLeaf (c := c) p (by simpa using e) rp) n
theorem Owns.inner : ∀ {ts : List O} {vs : List V} {r : List Addr} {c : Nat} {ds : List D}, Owns K F H vs ts r → ts[c]? = some (.ls ds) →
    ∃ b ws, vs[c]? = some (.ref b) ∧ H b = some (.lst ws) ∧ RpAll K F ws ds ∧ b ∈ r ∧ ∀ ws' ds', RpAll K F ws' ds' → Owns K F (upd H b (.lst ws')) vs (ts.set c (.ls ds')) r
  | [], _, _, _, _, .nil, e => by simp at e
  | t :: ts, _, _, 0, ds0, .cons (r := r) (rs := rs) q p n, e => by
    have e : t = .ls ds0 := by simpa using e
    subst e
    cases q with
    | ls q1 q2 =>
      refine ⟨_, _, rfl, q1, q2, by simp, fun ws' ds' rp => .cons (.ls upd_same rp) (p.mono .refl _ _ _ fun a ha => upd_ne ?_) n⟩
      intro z
      exact n _ (List.mem_singleton_self _) (z ▸ ha)
  | t :: ts, _, _, c + 1, _, .cons (r := r) (rs := rs) q p n, e => by
    obtain ⟨b, ws, h1, h2, h3, h4, h5⟩ := Owns.inner (c := c) p (by simpa using e)
    refine ⟨b, ws, by simpa using h1, h2, h3, List.mem_append_right _ h4, fun ws' ds' rp => .cons (q.mono .refl _ _ _ fun a ha => upd_ne ?_) (h5 ws' ds' rp) n⟩
    intro z
    exact n a ha (z ▸ h4)
/-- a write into what slot i owns -/
theorem OkF.updI {i : Nat} {j : Option Nat} {t t' : O} {v : V} {p : Addr} {x : HO} (o : OkF K pa F H σ Γ R) (e : Γ[i]? = some (.o j t)) (ev : σ[i]? = some (some v)) (hp : p ∈ R i) (ow : Own K F (upd H p x) v t' (R i)) :
    OkF K pa F (upd H p x) σ (Γ.set i (.o j t')) R ∧ Stp F H R F (upd H p x) R [] := by
  have hF := o.fr i p hp
  refine ⟨⟨fun b y q => ?_, by rw [List.length_set]; exact o.len, fun k s e2 => ?_, o.dj, o.fr, fun k b h => ?_, o.sys⟩, ⟨.refl, fun b y q n => ?_, fun k b h => .inr ⟨k, h⟩, fun _ h => (nomatch h), fun b h => .inl h⟩⟩
  · rw [upd_ne (fun z => by rw [z, hF] at q; cases q)]; exact o.sub b y q
  · by_cases hk : k = i
    · subst hk
      have hl : k < Γ.length := (List.getElem?_eq_some_iff.mp e).1
      rw [List.getElem?_set_self hl] at e2
      cases e2
      obtain ⟨v', e3, _, ex⟩ := o.sl k _ e
      exact ⟨v, ev, ow, fun k' h => by rw [ev] at e3; cases e3; exact ex k' h⟩
    · rw [List.getElem?_set_ne (Ne.symm hk)] at e2
      have q := o.sl k s e2
      cases s with
      | un => exact q
      | v d => exact q
      | o j t => exact let ⟨v, e, p', z⟩ := q; ⟨v, e, p'.mono .refl _ _ _ fun b hb => upd_ne fun e : b = p => hk (o.dj k i b hb (e ▸ hp)), z⟩
  · by_cases z : b = p
    · rw [z, upd_same]; simp
    · rw [upd_ne z]; exact o.hs k b h
  · rw [upd_ne (fun z : b = p => n i (by rw [z]; exact hp))]; exact q
/-- slot i owns a list of things -/
theorem OkF.ll {i : Nat} {j : Option Nat} {ts : List O} (o : OkF K pa F H σ Γ R) (e : Γ[i]? = some (.o j (.ll ts))) :
    ∃ a vs r, σ[i]? = some (some (.ref a)) ∧ H a = some (.lst vs) ∧ Owns K F H vs ts r ∧ a ∉ r ∧ R i = a :: r := by
  obtain ⟨v, ev, ow, _⟩ := o.sl i _ e
  generalize hr : R i = ri at ow
  cases ow with
  | ll q1 q2 q3 => exact ⟨_, _, _, ev, q1, q2, q3, rfl⟩
theorem OkF.ls {i : Nat} {j : Option Nat} {ds : List D} (o : OkF K pa F H σ Γ R) (e : Γ[i]? = some (.o j (.ls ds))) :
    ∃ a vs, σ[i]? = some (some (.ref a)) ∧ H a = some (.lst vs) ∧ RpAll K F vs ds ∧ R i = [a] := by
  obtain ⟨v, ev, ow, _⟩ := o.sl i _ e
  generalize hr : R i = ri at ow
  cases ow with
  | ls q1 q2 => exact ⟨_, _, ev, q1, q2, rfl⟩
theorem Owns.len {ts : List O} {vs : List V} {r : List Addr} (h : Owns K F H vs ts r) : vs.length = ts.length := h.length
end
theorem atI_of {α : Type} {l : List α} {c : Nat} {v : α} (h : l[c]? = some v) (hl : l.length ≤ sizeLine) : atI l (c : Int) = some v := atI_nat h
section
variable {X : Cx} {pa : List V} {pos p1 p2 p3 p4 p5 p6 : Pos} {a b e : Expr} {es : List Expr} {x : Str} {i : Nat} {q qa qb : List S → Option Int} {f : SE}
/-! whole numbers that are only read -/
structure QJ (X : Cx) (pa : List V) (e : Expr) (q : List S → Option Int) : Prop where
  run : PE X e (fun σ H Q => ∃ F Γ R n, OkF X.K pa F H σ Γ R ∧ q Γ = some n ∧ Q (.int n) H)
@[simp] def qC (n : Int) : List S → Option Int := fun _ => some n
theorem qj_int {n j} : QJ X pa (.Constant (.int n) j pos) (qC n) := ⟨PE.imp pe_int fun σ H Q ⟨F, Γ, R, m, o, e, k⟩ => by cases e; exact k⟩
@[simp] def intOf : S → Option Int
  | .v (.int n) => some n
  | .o _ (.leaf (.int n)) => some n
  | _ => none
@[simp] def qV (i : Nat) : List S → Option Int := fun Γ => (Γ[i]?).bind intOf
theorem qj_var (hp : PE X (.Name x pos) (tVar i)) : QJ X pa (.Name x pos) (qV i) := ⟨PE.imp hp fun σ H Q ⟨F, Γ, R, m, o, e, k⟩ => by
  unfold qV at e
  cases e0 : Γ[i]? with
  | none => rw [e0] at e; cases e
  | some s =>
    rw [e0] at e
    have e : intOf s = some m := e
    unfold intOf at e
    split at e
    · cases e
      obtain ⟨_, v, ev, rp⟩ := o.sl i _ e0
      cases rp
      exact ⟨_, ev, k⟩
    · cases e
      obtain ⟨v, ev, ow, _⟩ := o.sl i _ e0
      generalize R i = ri at ow
      cases ow with
      | leaf rp => cases rp; exact ⟨_, ev, k⟩
    · cases e⟩
@[simp] def ownAt (Γ : List S) (i c : Nat) : Option O := match Γ[i]? with
  | some (.o _ (.ll ts)) => ts[c]?
  | _ => none
theorem ownAt_some {Γ : List S} {c : Nat} {t : O} (h : ownAt Γ i c = some t) : ∃ j ts, Γ[i]? = some (.o j (.ll ts)) ∧ ts[c]? = some t := by
  unfold ownAt at h
  split at h
  · rename_i j ts e; exact ⟨j, ts, e, h⟩
  · cases h
@[simp] def qF (i c : Nat) : List S → Option Int := fun Γ => match ownAt Γ i c with
  | some (.leaf (.int n)) => some n
  | _ => none
@[simp] def qL (i c : Nat) : List S → Option Int := fun Γ => match ownAt Γ i c with
  | some (.ls ds) => some (ds.length : Int)
  | _ => none
/-- x[c] -/
theorem pe_at (hp : PE X (.Name x p1) (tVar i)) {c : Int} {j} : PE X (.Subscript (.Name x p1) (.Constant (.int c) j p2) pos) (tOp (rIxL X.K) (tVar i) (tC (.int c))) := pe_ix ix_list hp pe_int (fun _ _ => rfl)
theorem qj_at (hp : PE X (.Name x p1) (tVar i)) {c : Nat} {j} : QJ X pa (.Subscript (.Name x p1) (.Constant (.int (c : Int)) j p2) pos) (qF i c) := ⟨PE.imp (pe_at hp) fun σ H Q ⟨F, Γ, R, m, o, e, k⟩ => by
  unfold qF at e
  split at e
  · rename_i n h0
    cases e
    obtain ⟨j, ts, e1, e2⟩ := ownAt_some h0
    obtain ⟨a, vs, r, ev, ha, ow, _⟩ := o.ll e1
    obtain ⟨v, r', h1, h2, _⟩ := ow.get e2
    cases h2 with
    | leaf rp =>
      cases rp
      exact ⟨_, ev, _, _, _, _, rfl, rfl, SqL.of ha, atI_nat h1, k⟩
  · cases e⟩
/-- len(x[c]) -/
theorem qj_len (hp : PE X (.Name x p1) (tVar i)) {c : Nat} {j} (hg : Gl X "len") (hm : X.mg "len" = none) : QJ X pa (.Call (.Name "len" p3) [.Subscript (.Name x p1) (.Constant (.int (c : Int)) j p2) p4] [] pos) (qL i c) := ⟨PE.imp (pe_callB call_len_seq hg hm PySem.boot_len (pa_cons (pe_at hp) pa_nil)) fun σ H Q ⟨F, Γ, R, m, o, e, k⟩ => by
  unfold qL at e
  split at e
  · rename_i ds h0
    cases e
    obtain ⟨j, ts, e1, e2⟩ := ownAt_some h0
    obtain ⟨a, vs, r, ev, ha, ow, _⟩ := o.ll e1
    obtain ⟨b, ws, h1, h2, h3, _, _⟩ := ow.inner e2
    refine ⟨_, ev, _, _, _, _, rfl, rfl, SqL.of ha, atI_nat h1, b, ws, rfl, .inl (SqL.of h2), ?_⟩
    rw [h3.length]; exact k
  · cases e⟩
@[simp] def qO (C : Int → Int → Prop) [DecidableRel C] (g : Int → Int → Int) (qa qb : List S → Option Int) : List S → Option Int := fun Γ => match qa Γ, qb Γ with
  | some i, some j => if C i j then some (g i j) else none
  | _, _ => none
theorem qj_op {op : Operator} {C : Int → Int → Prop} [DecidableRel C] {g : Int → Int → Int} (ho : OpR X (binaryOp op) (rI C fun i j => V.int (g i j))) (ha : QJ X pa a qa) (hb : QJ X pa b qb) : QJ X pa (.BinOp a op b pos) (qO C g qa qb) := ⟨PE.imp (pe_op ho ha.run hb.run) fun σ H Q ⟨F, Γ, R, m, o, e, k⟩ => by
  unfold qO at e
  split at e
  · rename_i i j e1 e2
    split at e
    · rename_i hc
      cases e
      exact ⟨F, Γ, R, i, o, e1, F, Γ, R, j, o, e2, i, j, rfl, rfl, hc, k⟩
    · cases e
  · cases e⟩
instance : DecidableRel CMulW := fun i j => by unfold CMulW; exact inferInstance
instance : DecidableRel CDivW := fun i j => by unfold CDivW; exact inferInstance
theorem op_addQ : OpR X (binaryOp .Add) (rI (fun _ _ => True) fun i j => V.int (i + j)) := fun pins s σ H x y v u Q I rx ry ⟨i, j, e1, e2, _, q⟩ => op_add pins s σ H x y v u Q I rx ry ⟨i, j, e1, e2, q⟩
theorem op_subQ : OpR X (binaryOp .Sub) (rI (fun _ _ => True) fun i j => V.int (i - j)) := fun pins s σ H x y v u Q I rx ry ⟨i, j, e1, e2, _, q⟩ => op_sub pins s σ H x y v u Q I rx ry ⟨i, j, e1, e2, q⟩
/-! .. as expressions -/
@[simp] def sQ (q : List S → Option Int) : SE := fun Γ κ _ => ∃ n, q Γ = some n ∧ κ (.leaf (.int n)) Γ
theorem ej_q (h : QJ X pa e q) : EJ X pa e (sQ q) := ⟨fun W tk => PE.imp h.run fun σ H Q ⟨F, Γ, R, Ex, Kc, o, xl, ⟨n, e, h1⟩, k⟩ => ⟨F, Γ, R, n, o, e, k _ _ h1 _ F H R [] o .refl (.leaf (.int n))⟩⟩
@[simp] def sAt (i c : Nat) (q : List S → Option Int) : SE := fun Γ κ _ => ∃ ds n d, ownAt Γ i c = some (.ls ds) ∧ q Γ = some n ∧ atI ds n = some d ∧ κ (.leaf d) Γ
/-- x[c][e] -/
theorem ej_at (hp : PE X (.Name x p1) (tVar i)) {c : Nat} {j} (hq : QJ X pa e q) (hs : PlainIx e) : EJ X pa (.Subscript (.Subscript (.Name x p1) (.Constant (.int (c : Int)) j p2) p3) e pos) (sAt i c q) := ⟨fun W tk =>
  PE.imp (pe_ix ix_list (pe_at hp) hq.run hs) fun σ H Q ⟨F, Γ, R, Ex, Kc, o, xl, ⟨ds, n, d, e0, e1, e2, h1⟩, k⟩ => by
    obtain ⟨j, ts, e3, e4⟩ := ownAt_some e0
    obtain ⟨a, vs, r, ev, ha, ow, _⟩ := o.ll e3
    obtain ⟨b, ws, h3, h4, h5, _, _⟩ := ow.inner e4
    obtain ⟨v, h6, h7⟩ := h5.at e2
    exact ⟨_, ev, _, _, _, _, rfl, rfl, SqL.of ha, atI_nat h3, F, Γ, R, n, o, e1, _, _, _, _, rfl, rfl, SqL.of h4, h6, k _ _ h1 _ F H R [] o .refl (.leaf h7)⟩⟩
/-- x[c] != [] -/
@[simp] def cAtNe (i c : Nat) : ST := fun Γ κ _ => ∃ ds, ownAt Γ i c = some (.ls ds) ∧ pls ds = true ∧ κ (!ds.isEmpty) Γ
theorem eqD_nil {ds : List D} : eqD (.lst ds) (.lst []) = ds.isEmpty := by
  cases ds with
  | nil => rfl
  | cons d ds => rfl
theorem tj_atNe (hu : X.A.units + 64 < cLine) (hp : PE X (.Name x p1) (tVar i)) {c : Nat} {j} (hm : behindInMarks .NotEq (.List [] p4) = false) : TJ X pa (.Compare (.Subscript (.Name x p1) (.Constant (.int (c : Int)) j p2) p3) [.NotEq] [.List [] p4] pos) (cAtNe i c) := ⟨fun W tk =>
  PT.imp (pt_cmpR (op_neP hu) (pe_at hp) (pe_lst pa_nil) hm) fun σ H Q ⟨F, Γ, R, Ex, Kc, o, xl, ⟨ds, e0, pl, h1⟩, k⟩ => by
    obtain ⟨j, ts, e3, e4⟩ := ownAt_some e0
    obtain ⟨a, vs, r, ev, ha, ow, _⟩ := o.ll e3
    obtain ⟨b, ws, h3, h4, h5, _, _⟩ := ow.inner e4
    refine ⟨_, ev, _, _, _, _, rfl, rfl, SqL.of ha, atI_nat h3, by show 0 ≤ sizeLine; exact Nat.zero_le _, fun p hp => ?_⟩
    obtain ⟨o2, s2⟩ := o.newH (x := .lst []) hp
    have nb : b ≠ p := fun z => by rw [z, hp] at h4; cases h4
    refine ⟨F, .lst ds, .lst [], o2.sys, o2.sub, .lst (by rw [upd_ne nb]; exact h4) h5, .lst upd_same .nil, ⟨by simpa [D.pl] using pl, rfl, ?_⟩, _, rfl, ?_⟩
    · have : (D.lst []).dep = 1 := by simp [D.dep, deps]
      rw [this]
      have := Nat.min_le_right (D.lst ds).dep 1
      omega
    · rw [eqD_nil]
      exact k _ _ h1 F _ R o2 s2.noR⟩
/-! .. as statements -/
theorem set_ne {α : Type} {l : List α} {k : Nat} {v : α} (h : k < l.length) : ixN l.length (k : Int) = some k := by
  unfold ixN
  simp
  omega
/-- x[c] = e -/
@[simp] def zSetF (i c : Nat) (f : SE) : SS := fun k Γ Ex => f Γ (fun t Γ1 => ∃ j ts d0, Γ1[i]? = some (.o j (.ll ts)) ∧ ts[c]? = some (.leaf d0) ∧ k.nx (Γ1.set i (.o j (.ll (ts.set c (.leaf t.fz)))))) Ex
theorem sj_setF (hp : PE X (.Name x p1) (tVar i)) {c : Nat} {j} (hf : EJ X pa e f) (hs : swapsWithSole [.Subscript (.Name x p1) (.Constant (.int (c : Int)) j p2) p3] e pos.line X.env = pure false := by rfl) (hw : swappedStores [.Subscript (.Name x p1) (.Constant (.int (c : Int)) j p2) p3] e X.env = pure none := by rfl) :
    SJ X pa (.Assign [.Subscript (.Name x p1) (.Constant (.int (c : Int)) j p2) p3] e pos) (zSetF i c f) := ⟨fun W tk => PS.imp (ps_asg (hf.run W tk) (pg_sub hp pe_int set_list) hs hw) fun D σ H ⟨F, Γ, R, Ex, k, o, xl, q, n, _⟩ =>
  ⟨F, Γ, R, Ex, _, o, xl σ, q, fun t Γ1 ⟨j, ts, d0, e1, e2, h1⟩ v F' H' R' r o' s' x' => by
    have o2 := x'.freezeOk o'
    have r2 := x'.freezeRp
    have s2 := x'.freezeStp s'
    obtain ⟨a, vs, rr, ev, ha, ow, hn, hR⟩ := o2.ll e1
    have hc : c < vs.length := by rw [ow.length]; exact (List.getElem?_eq_some_iff.mp e2).1
    refine ⟨_, ev, _, vs, _, c, rfl, rfl, ha, set_ne (v := v) hc, ?_⟩
    obtain ⟨o3, s3⟩ := o2.updI (x := .lst (vs.set c v)) (p := a) (t' := .ll (ts.set c (.leaf t.fz))) e1 ev (by rw [hR]; simp) (by
      rw [hR]
      refine .ll upd_same ((ow.setLeaf e2 r2).mono .refl _ _ _ fun b hb => upd_ne fun z => hn (z ▸ hb)) hn)
    exact n _ h1 _ _ _ _ o3 (s2.trans s3)⟩⟩
/-- x[c][k] = e -/
@[simp] def zSetI (i c k0 : Nat) (f : SE) : SS := fun k Γ Ex => f Γ (fun t Γ1 => ∃ j ts ds, Γ1[i]? = some (.o j (.ll ts)) ∧ ts[c]? = some (.ls ds) ∧ k0 < ds.length ∧ k.nx (Γ1.set i (.o j (.ll (ts.set c (.ls (ds.set k0 t.fz))))))) Ex
theorem RpAll.set {K : PySem.W.Frag} {F : Hp} : ∀ {vs : List V} {ds : List D} {v : V} {d : D} (k : Nat), RpAll K F vs ds → Rp K F v d → RpAll K F (vs.set k v) (ds.set k d)
  | _, _, _, _, _, .nil, _ => .nil
  | _, _, _, _, 0, .cons _ p, r => .cons r p
  | _, _, _, _, k + 1, .cons q p, r => .cons q (RpAll.set k p r)
theorem sj_setI (hp : PE X (.Name x p1) (tVar i)) {c k0 : Nat} {j j2} (hf : EJ X pa e f)
    (hs : swapsWithSole [.Subscript (.Subscript (.Name x p1) (.Constant (.int (c : Int)) j p2) p3) (.Constant (.int (k0 : Int)) j2 p4) p5] e pos.line X.env = pure false := by rfl)
    (hw : swappedStores [.Subscript (.Subscript (.Name x p1) (.Constant (.int (c : Int)) j p2) p3) (.Constant (.int (k0 : Int)) j2 p4) p5] e X.env = pure none := by rfl) :
    SJ X pa (.Assign [.Subscript (.Subscript (.Name x p1) (.Constant (.int (c : Int)) j p2) p3) (.Constant (.int (k0 : Int)) j2 p4) p5] e pos) (zSetI i c k0 f) := ⟨fun W tk => PS.imp (ps_asg (hf.run W tk) (pg_sub (pe_at hp) pe_int set_list) hs hw) fun D σ H ⟨F, Γ, R, Ex, k, o, xl, q, n, _⟩ =>
  ⟨F, Γ, R, Ex, _, o, xl σ, q, fun t Γ1 ⟨j, ts, ds, e1, e2, hk, h1⟩ v F' H' R' r o' s' x' => by
    have o2 := x'.freezeOk o'
    have r2 := x'.freezeRp
    have s2 := x'.freezeStp s'
    obtain ⟨a, vs, rr, ev, ha, ow, hn, hR⟩ := o2.ll e1
    obtain ⟨b, ws, h3, h4, h5, h6, h7⟩ := ow.inner e2
    refine ⟨_, ev, _, _, _, _, rfl, rfl, SqL.of ha, atI_nat h3, _, ws, _, k0, rfl, rfl, h4, set_ne (v := v) (by rw [h5.length]; exact hk), ?_⟩
    have nab : a ≠ b := fun z => hn (z ▸ h6)
    obtain ⟨o3, s3⟩ := o2.updI (x := .lst (ws.set k0 v)) (p := b) (t' := .ll (ts.set c (.ls (ds.set k0 t.fz)))) e1 ev (by rw [hR]; exact List.mem_cons_of_mem _ h6) (by
      rw [hR]
      exact .ll (by rw [upd_ne nab]; exact ha) (h7 _ _ (h5.set k0 r2)) hn)
    exact n _ h1 _ _ _ _ o3 (s2.trans s3)⟩⟩
/-- x[c].pop(0) -/
@[simp] def zPop (i c : Nat) : SS := fun k Γ _ => ∃ j ts d ds, Γ[i]? = some (.o j (.ll ts)) ∧ ts[c]? = some (.ls (d :: ds)) ∧ k.nx (Γ.set i (.o j (.ll (ts.set c (.ls ds)))))
theorem sj_pop (hp : PE X (.Name x p1) (tVar i)) {c : Nat} {j j2} (hline : (p4.endLine == p6.line) = true := by rfl)
    (hbase : attributeBase (.Subscript (.Name x p1) (.Constant (.int (c : Int)) j p2) p3) "pop" X.env (eval (.Subscript (.Name x p1) (.Constant (.int (c : Int)) j p2) p3) X.env) = eval (.Subscript (.Name x p1) (.Constant (.int (c : Int)) j p2) p3) X.env := by rfl)
    (hs : swapsWith (.Call (.Attribute (.Subscript (.Name x p1) (.Constant (.int (c : Int)) j p2) p3) "pop" p4) [.Constant (.int 0) j2 p5] [] p6) none pos.line X.env = pure false := by rfl) :
    SJ X pa (.Expr (.Call (.Attribute (.Subscript (.Name x p1) (.Constant (.int (c : Int)) j p2) p3) "pop" p4) [.Constant (.int 0) j2 p5] [] p6) pos) (zPop i c) := ⟨fun W tk =>
  PS.imp (ps_expr (pe_bm PySem.F.plainAttrs_list PySem.F.slot_list_pop PySem.F.type_list_pop mt_popAt (pe_at hp) (pa_cons pe_int pa_nil) hbase rfl hline) hs) fun D σ H ⟨F, Γ, R, Ex, k, o, xl, ⟨j, ts, d, ds, e1, e2, h1⟩, n, _⟩ => by
    obtain ⟨a, vs, rr, ev, ha, ow, hn, hR⟩ := o.ll e1
    obtain ⟨b, ws, h3, h4, h5, h6, h7⟩ := ow.inner e2
    have nab : a ≠ b := fun z => hn (z ▸ h6)
    cases h5 with
    | cons r5 p5 =>
      rename_i v ws
      refine ⟨_, ev, _, _, _, _, rfl, rfl, SqL.of ha, atI_nat h3, .inl ⟨rfl, _, SqL.of h4⟩, b, _, 0, 0, v, rfl, rfl, h4, by decide, by decide, ?_, rfl, ?_⟩
      · simp [seqIndex?]
      obtain ⟨o3, s3⟩ := o.updI (x := .lst ws) (p := b) (t' := .ll (ts.set c (.ls ds))) e1 ev (by rw [hR]; exact List.mem_cons_of_mem _ h6) (by
        rw [hR]
        exact .ll (by rw [upd_ne nab]; exact ha) (h7 _ _ p5) hn)
      exact n _ h1 _ _ _ _ o3 s3⟩
/-- xs.append(e) -/
@[simp] def zApp (i : Nat) (ga : SA) : SS := fun k Γ Ex => (∃ s ds, Γ[i]? = some (.o s (.ls ds))) ∧ ga Γ (fun a Γ1 => match a with
  | .val d => ∃ j ds, Γ1[i]? = some (.o j (.ls ds)) ∧ ds.length < sizeLine ∧ k.nx (Γ1.set i (.o j (.ls (ds ++ [d]))))
  | .slot _ => False) Ex
theorem sj_app (hp : PE X (.Name x p1) (tVar i)) {ga : SA} (ha : AJ X pa a ga)
    (hline : (p4.endLine == p6.line) = true := by rfl)
    (hbase : attributeBase (.Name x p1) "append" X.env (eval (.Name x p1) X.env) = eval (.Name x p1) X.env := by rfl)
    (hfew : ((backTo p6 (starEach [a] X.env)).all (fun x => !x.1) && (backToKw p6 (keywordEach [] X.env)).all (fun x => x.1.isSome)
      && decide (([a] : List Expr).length + ([] : List Keyword).length + (if ([] : List Keyword).isEmpty then 0 else 1) < 30)) = true := by rfl)
    (hse : starEach [a] X.env = (false, eval a X.env) :: starEach [] X.env := by rfl)
    (hs : swapsWith (.Call (.Attribute (.Name x p1) "append" p4) [a] [] p6) none pos.line X.env = pure false := by rfl) :
    SJ X pa (.Expr (.Call (.Attribute (.Name x p1) "append" p4) [a] [] p6) pos) (zApp i ga) := ⟨fun W tk =>
  PS.imp (ps_expr (pe_bm PySem.F.plainAttrs_list PySem.F.slot_list_append PySem.F.type_list_append mt_append hp (pa_cons (ha.run W tk) pa_nil hse) hbase hfew hline hse) hs) fun D σ H ⟨F, Γ, R, Ex, k, o, xl, ⟨⟨s0, ds0, e0⟩, q⟩, n, _⟩ => by
    obtain ⟨l, vs, ev, hl, rp, hR⟩ := o.ls e0
    refine ⟨_, ev, .inl ⟨rfl, _, SqL.of hl⟩, F, Γ, R, Ex, _, o, xl σ, q, fun ar Γ1 h1 v F1 H1 R1 o1 s1 a1 => ?_⟩
    cases ar with
    | slot _ => exact h1.elim
    | val d =>
      obtain ⟨j, ds, e1, hsz, h2⟩ := h1
      obtain ⟨l', vs', ev', hl', rp', hR'⟩ := o1.ls e1
      rw [ev] at ev'
      cases ev'
      refine ⟨l, vs', v, rfl, rfl, hl', by rw [rp'.length]; exact hsz, ?_⟩
      obtain ⟨o3, s3⟩ := o1.updI (x := .lst (vs' ++ [v])) (p := l) (t' := .ls (ds ++ [d])) e1 ev (by rw [hR']; simp) (by
        rw [hR']
        exact .ls upd_same (rp'.snoc a1))
      exact n _ h2 _ _ _ _ o3 (s1.trans s3)⟩
end
end L3
namespace L3
open PySem PySem.Spec PyProof.Rows L2

/-! ### a display of things -/
abbrev SOs := List S → (List O → List S → Prop) → Xk → Prop
structure ResS (K : PySem.W.Frag) (F H : Hp) (R : Nat → List Addr) (vs : List V) (ts : List O) (r : List Addr) : Prop where
  own : Owns K F H vs ts r
  dj : ∀ i a, a ∈ r → a ∉ R i
  fr : ∀ a, a ∈ r → F a = none
def tOs (K : PySem.W.Frag) (pa : List V) (W : WX) (g : SOs) : TA := fun σ H Q => ∃ F Γ R Ex Kc, OkF K pa F H σ Γ R ∧ XL K pa W σ F H R Ex ∧ g Γ Kc Ex ∧
  ∀ ts Γ', Kc ts Γ' → ∀ vs F' H' R' r, OkF K pa F' H' σ Γ' R' → Stp F H R F' H' R' r → ResS K F' H' R' vs ts r → Q vs H'
structure OsJ (X : Cx) (pa : List V) (es : List Expr) (g : SOs) : Prop where
  run : ∀ W, Takes X W → PA X es (tOs X.K pa W g)
section
variable {X : Cx} {pa : List V} {pos p p1 p2 p3 p4 : Pos} {a b e : Expr} {es : List Expr} {f : SE} {ga : SA} {gs : SOs} {tg : Expr} {elts : List Expr} {kk : Nat} {tpos : Pos}
@[simp] def oNil : SOs := fun Γ κ _ => κ [] Γ
@[simp] def oCons (f : SE) (gs : SOs) : SOs := fun Γ κ Ex => f Γ (fun t Γ1 => gs Γ1 (fun ts Γ2 => κ (t :: ts) Γ2) Ex) Ex
theorem osj_nil : OsJ X pa [] oNil := ⟨fun W tk => PA.imp pa_nil fun σ H Q ⟨F, Γ, R, Ex, Kc, o, xl, q, k⟩ => k _ _ q [] F H R [] o .refl ⟨.nil, fun _ _ h => (nomatch h), fun _ h => nomatch h⟩⟩
theorem osj_cons (ha : EJ X pa a f) (hs : OsJ X pa es gs) (hst : starEach (a :: es) X.env = (false, eval a X.env) :: starEach es X.env := by rfl) : OsJ X pa (a :: es) (oCons f gs) := ⟨fun W tk =>
  PA.imp (pa_cons (ha.run W tk) (hs.run W tk) hst) fun σ H Q ⟨F, Γ, R, Ex, Kc, o, xl, q, k⟩ =>
    ⟨F, Γ, R, Ex, _, o, xl, q, fun t Γ1 h1 v F1 H1 R1 r1 o1 s1 x1 => ⟨F1, Γ1, R1, Ex, _, o1, xl.step s1, h1, fun ts Γ2 h2 vs F2 H2 R2 r2 o2 s2 x2 => by
      have y1 := x1.keep s2
      have old : ∀ a, a ∈ r1 → ∃ o, H1 a = some o := fun a ha => let ⟨xs, e⟩ := x1.own.there _ _ _ a ha; ⟨_, e⟩
      refine k _ _ h2 _ F2 H2 R2 (r1 ++ r2) o2 ?_ ⟨.cons y1.own x2.own fun a ha hb => ?_, fun i a ha => ?_, fun a ha => ?_⟩
      · refine (s1.trans s2).withR fun a ha => ?_
        rcases List.mem_append.mp ha with ha | ha
        · exact s1.r1 a ha
        · exact s1.back (s2.r1 a ha)
      · obtain ⟨ob, e⟩ := old a ha
        rcases s2.r1 a hb with h | ⟨j, h⟩
        · rw [e] at h; cases h
        · exact x1.dj j a ha h
      · rcases List.mem_append.mp ha with ha | ha
        · exact y1.dj i a ha
        · exact x2.dj i a ha
      · rcases List.mem_append.mp ha with ha | ha
        · exact y1.fr a ha
        · exact x2.fr a ha⟩⟩⟩
@[simp] def sLstO (gs : SOs) : SE := fun Γ κ Ex => gs Γ (fun ts Γ1 => ts.length ≤ sizeLine ∧ κ (.ll ts) Γ1) Ex
theorem ej_lstO (ha : OsJ X pa es gs) : EJ X pa (.List es pos) (sLstO gs) := ⟨fun W tk => PE.imp (pe_lst (ha.run W tk)) fun σ H Q ⟨F, Γ, R, Ex, Kc, o, xl, q, kk⟩ => ⟨F, Γ, R, Ex, _, o, xl, q, fun ts Γ1 h1 vs F1 H1 R1 r1 o1 s1 x1 => by
  refine ⟨by rw [x1.own.length]; exact h1.1, fun p hp => ?_⟩
  obtain ⟨o2, s2⟩ := o1.newH (x := .lst vs) hp
  have np : ∀ a, a ∈ r1 → a ≠ p := fun a ha z => by obtain ⟨_, e⟩ := Owns.there _ _ _ x1.own a ha; rw [z, hp] at e; cases e
  refine kk _ _ h1.2 _ F1 _ R1 (p :: r1) o2 ((s1.trans s2).withR fun a ha => ?_) ⟨.ll upd_same (x1.own.mono .refl _ _ _ fun a ha => upd_ne (np a ha)) fun h => np p h rfl, fun i a ha hi => ?_, fun a ha => ?_⟩
  · rcases List.mem_cons.mp ha with z | ha
    · rw [z]; exact s1.back (.inl hp)
    · exact s1.r1 a ha
  · rcases List.mem_cons.mp ha with z | ha
    · exact o1.hs i a hi (by rw [z]; exact hp)
    · exact x1.dj i a ha hi
  · rcases List.mem_cons.mp ha with z | ha
    · rw [z]; exact o1.sub.none hp
    · exact x1.fr a ha⟩⟩

/-! ### enumerate(t), enumerate(t, start=k) -/
def Itn (K : PySem.W.Frag) (a : Addr) (c : Int) : It :=
  ⟨fun i H => ∃ (xs : List V) (x : V), SqT K H a xs ∧ xs[i]? = some x, fun i H v H' => ∃ T x, v = .ref T ∧ H T = none ∧ H' = upd H T (.tup [.int (c + (i : Nat)), x]) ∧ ∀ xs, SqT K H a xs → xs[i]? = some x, fun i H => ∃ xs : List V, SqT K H a xs ∧ xs.length = i⟩
theorem turn_enumT {P : Program} {w : World} {K : PySem.W.Frag} (a e it : Addr) (c : Int) :
    Turn P w K (.Tuple elts kk tpos) (Itn K a c) [e, it] e (fun i h => (∃ old, IsEnum h e it (c + ((i : Nat) : Int)) old) ∧ h.IsTupleIter it a i ∧ e ≠ it) where
  mem := by simp
  obj := fun i h st b hb => by
    obtain ⟨⟨old, he⟩, ⟨o, ho, hc, hd⟩, _⟩ := st
    have e' : b = e ∨ b = it := by simpa using hb
    rcases e' with z | z
    · rw [z]; exact ⟨_, he, fun v q => nomatch q⟩
    · rw [z]; exact ⟨o, ho, fun v q => by rw [hd] at q; cases q⟩
  keep := fun i h h' st k => let ⟨⟨old, he⟩, hi, hne⟩ := st; ⟨⟨old, k e (by simp) _ he⟩, hi.at fun o q => k it (by simp) o q, hne⟩
  item := by
    intro X hP hw hK hc i pins s σ H E I hf st hg
    subst hP hw hK
    obtain ⟨⟨old, he⟩, hit, hne⟩ := st
    obtain ⟨xs, x, hq, hx⟩ := hg
    obtain ⟨its, rv, p, hz⟩ := I.tuple hq
    obtain ⟨u, hu, ru⟩ := rv.get hx
    have hel : e < s.heap.objs.size := Heap.lt_size he
    have hil : it < s.heap.objs.size := by obtain ⟨_, q, _⟩ := hit; exact Heap.lt_size q
    have ht : s.heap.IsTuple a its.toArray := p
    have nae : a ≠ e := fun z => by
      subst z
      obtain ⟨o1, h1, h2, _⟩ := ht
      have h1' := (show some o1 = some _ from h1.symm.trans he)
      cases h1'
      simp at h2
    have nai : a ≠ it := fun z => by
      subst z
      obtain ⟨o1, h1, h2, _⟩ := ht
      obtain ⟨o2, g1, g2, _⟩ := hit
      have h1' := h1.symm.trans g1
      cases h1'
      rw [h2] at g2
      simp at g2
    have D := Draws.tuple (prog := X.prog) (w := X.w) (A := X.A.in1) (show X.A.in1.handled = none from I.ok.hd hc) it a nai its.toArray
    have hi : i < its.toArray.size := by
      have := (List.getElem?_eq_some_iff.mp hu).1
      simpa using this
    refine wpAny_pyNext_enum_itemC D he ⟨hit, ht⟩ hi hne (by simp [hne, Ne.symm nae]) fun x' h' tk hP ho hst hT hsz hk => ?_
    have ex : x' = u := by
      have := hP.symm.trans (show its.toArray[i]? = some u by simpa using hu)
      exact Option.some.inj this
    subst ex
    refine ⟨_, rfl, wpAny_letOwnedTupleGo_enum (s := { s with heap := h', toks := tk + 1 }) ho fun h'' he' sb => ?_⟩
    have hT2 : h''.get? s.heap.objs.size = some { cls := .type "tuple", data := .seq #[.int (c + ((i : Nat) : Int)) tk, x'] } := (sb.2 _ (Nat.ne_of_gt hel)).trans hT
    have new : ObjOk X.prog X.w (upd H s.heap.objs.size (.tup [.int (c + (i : Nat)), x])) h'' s.heap.objs.size (.tup [.int (c + (i : Nat)), x]) :=
      ⟨by show 2 ≤ sizeLine; decide, [.int (c + ((i : Nat) : Int)) tk, x'], .cons ⟨_, rfl⟩ (.cons ru .nil), ⟨_, hT2, rfl, _, rfl⟩⟩
    have I1 : Inv X pins σ (upd H s.heap.objs.size (.tup [.int (c + (i : Nat)), x])) { s with heap := h'', toks := tk + 1 } :=
      I.turnedNew (ch := [e, it]) (fun b ob hb q => (sb.2 b (fun z => hb (by simp [z]))).trans (hk b ob (fun z => hb (by simp [z])) (fun z => hb (by simp [z])) q)) hf (Nat.le_refl _) new
    refine ⟨.ref s.heap.objs.size, _, I1, rfl, ⟨_, x, rfl, I.hok.fresh (Nat.le_refl _), rfl, fun ys hy => by rw [I.tuple_inj hy hq]; exact hx⟩, ⟨⟨x', ?_⟩, hst.1.at fun o q => (sb.2 it (Ne.symm hne)).trans q, hne⟩, fun b hb => ?_⟩
    · have e1 : c + ((i + 1 : Nat) : Int) = c + (i : Int) + 1 := by omega
      rw [e1]; exact he'
    · have hb' : b < s.heap.objs.size := by
        have e' : b = e ∨ b = it := by simpa using hb
        rcases e' with z | z
        · rw [z]; exact hel
        · rw [z]; exact hil
      rw [upd_ne (Nat.ne_of_lt hb')]
      exact (hf b hb).1
  done := by
    intro X hP hw hK hc i pins s σ H E I hf st hg
    subst hP hw hK
    obtain ⟨⟨old, he⟩, hit, hne⟩ := st
    obtain ⟨xs, hq, hx⟩ := hg
    obtain ⟨its, rv, p, hz⟩ := I.tuple hq
    obtain ⟨f0, f1, f2, f3, f4, f5⟩ := hf it (by simp)
    have hl := rv.length
    have ht : s.heap.IsTuple a its.toArray := p
    have nai : a ≠ it := fun z => by
      subst z
      obtain ⟨o1, h1, h2, _⟩ := ht
      obtain ⟨o2, g1, g2, _⟩ := hit
      have h1' := h1.symm.trans g1
      cases h1'
      rw [h2] at g2
      simp at g2
    have D := Draws.tuple (prog := X.prog) (w := X.w) (A := X.A.in1) (show X.A.in1.handled = none from I.ok.hd hc) it a nai its.toArray
    refine wpAny_pyNext_enum_endD D he (by rw [show its.toArray.size = i by rw [List.size_toArray, ← hl]; exact hx]; exact ⟨hit, ht⟩) fun h' eb => ⟨rfl, I.turned (t' := s.toks) (fun b o hb q => eb b o hb q) f0 f1 f3 f4 f5⟩
  self := fun A i s Q E st h => let ⟨⟨_, he⟩, _⟩ := st; wpAny_pyIter_enum he h
theorem itd_enum {K : PySem.W.Frag} {F : Hp} {ar : Addr} {c : Int} {vs : List V} {ds : List D} (q : SqT K F ar vs) (r : RpAll K F vs ds) : ItD K (Itn K ar c) F ((List.range ds.length).map fun i => .tup [.int (c + (i : Nat)), ds.getD i .non]) := fun i F1 H σ Γ R pa o sb => by
  have sH := sb.trans o.sub
  refine ⟨fun d e => ?_, fun hl => ⟨vs, sH.sqT q, by rw [r.length]; simpa using hl⟩⟩
  rw [List.getElem?_map] at e
  by_cases hi : i < ds.length
  · rw [List.getElem?_range hi] at e
    cases e
    have e0 : ds[i]? = some (ds.getD i .non) := by rw [List.getD_eq_getElem?_getD, List.getElem?_eq_getElem hi]; rfl
    obtain ⟨v, e1, e2⟩ := r.get e0
    refine ⟨⟨vs, v, sH.sqT q, e1⟩, fun x H' ⟨T, y, e3, e4, e5, e6⟩ => ?_⟩
    subst e3 e5
    have := e6 vs (sH.sqT q)
    rw [e1] at this; cases this
    obtain ⟨o', s', sb'⟩ := o.newF (x := .tup [.int (c + (i : Nat)), v]) e4
    exact ⟨_, o', s', .tup (SqT.of upd_same) (RpAll.mono sb' _ _ (.cons (.int _) (.cons (Rp.mono sb _ _ e2) .nil)))⟩
  · rw [List.getElem?_eq_none (by simpa using hi)] at e; cases e
def iEn (K : PySem.W.Frag) (tl : TA) : TI := fun σ H R => tl σ H fun vs H1 => ∃ a xs, vs = [.ref a] ∧ SqT K H1 a xs ∧ R (Itn K a 0) H1
theorem newEnum1 {u : Value} {ob : Obj} {St : Heap → Prop} (Bg : Begins u ob St) :
    Meets (Builtin.«enumerate.__new__» ⟨[.type "enumerate", u], []⟩) (fun _ Rr z => St z.heap ∧
      Rr (.ok (.ret (.ref (z.heap.push ob).objs.size))) { z with heap := (z.heap.push ob).push { cls := .type "enumerate", data := .fields #[.none, .bool false, .ref z.heap.objs.size, rawInt 0, .none, .none] } }) :=
  .of_wp fun pg wd Ar Rr z hz => by
    obtain ⟨h0, g0, d0, t0, o0⟩ := z; obtain ⟨hSt, hz⟩ := hz
    have hsub := sub_enumerate
    have step : ∀ {Ar' : Around} {Er : Value → Shared → Prop} {Qr : Value → Shared → Prop}, Qr (.ref h0.objs.size) ⟨h0.push ob, g0, d0, t0, o0⟩ → wpAny (model pg wd) Ar' (pyIter u) Qr Er ⟨h0, g0, d0, t0, o0⟩ :=
      fun q => Bg.iter pg wd _ _ ⟨h0, g0, d0, t0, o0⟩ _ hSt q
    wp_walk using step
    refine wpAny_stack_any fun _ => wpAny_pure ?_
    split
    · rename_i c _ _ _ _ _
      cases (c == Value.type "enumerate") <;> (wp_walk using step; exact ⟨_, rfl, hz⟩)
    · wp_walk using step
      exact ⟨_, rfl, hz⟩
theorem callEnum1 {pg : Program} {wd : World} {Ar : Around} {Er : Value → Shared → Prop} {z : Shared} {u : Value} {ob : Obj} {St : Heap → Prop} {Qr : Value → Shared → Prop} (Bg : Begins u ob St) (hSt : St z.heap)
    (fin : ∀ hh, IsEnum hh (z.heap.objs.size + 1) z.heap.objs.size 0 .none → hh.get? z.heap.objs.size = some ob → (∀ b x, z.heap.get? b = some x → hh.get? b = some x) → Qr (.ref (z.heap.objs.size + 1)) { z with heap := hh }) :
    wpAny (model pg wd) Ar (call (.type "enumerate") [u]) Qr Er z := by
  refine callType_new F.called_enumerate (by decide) (F.typeCall_enumerate_1 _) (F.newCall_enumerate_1 _) (fun obj => F.args_object_init_2 obj _) F.entry_enumerate_new (newEnum1 Bg) ⟨hSt, ?_⟩
  have hs1 : (z.heap.push ob).objs.size = z.heap.objs.size + 1 := Heap.size_push ..
  show _ ∧ _
  rw [hs1]
  have hE : IsEnum ((z.heap.push ob).push { cls := .type "enumerate", data := .fields #[.none, .bool false, .ref z.heap.objs.size, rawInt 0, .none, .none] }) (z.heap.objs.size + 1) z.heap.objs.size 0 .none := by
    have := Heap.get?_push_size (z.heap.push ob) (o := { cls := .type "enumerate", data := .fields #[.none, .bool false, .ref z.heap.objs.size, rawInt 0, .none, .none] }) rfl
    rw [hs1] at this; exact this
  exact ⟨⟨_, hE, rfl⟩, fin _ hE (Heap.get?_push_of_some _ (Heap.get?_push_size _ Bg.free)) fun b x q => Heap.get?_push_of_some _ (Heap.get?_push_of_some _ q)⟩
/-- where the new enumerate stands: a walk -/
theorem walkEn {pins : List (Addr × Obj)} {σ : Sg} {H1 : Hp} {s1 : Shared} {R : It → Hp → Prop} {a : Addr} {its : List Value} {c : Int} (I1 : Inv X pins σ H1 s1) (p' : s1.heap.IsTuple a its.toArray) {h' : Heap}
    (he : IsEnum h' (s1.heap.objs.size + 1) s1.heap.objs.size c .none) (ho : h'.get? s1.heap.objs.size = some { cls := .type "tuple_iterator", data := .fields #[.ref a, .int 0 0] }) (hk : ∀ b x, s1.heap.get? b = some x → h'.get? b = some x) (q : R (Itn X.K a c) H1) :
    wpAny (model X.prog X.w) X.A (pyIter (.ref (s1.heap.objs.size + 1))) (PIE X pins σ (.Tuple elts kk tpos) R) X.xe { s1 with heap := h' } := by
  refine wpAny_pyIter_enum he ?_
  have I2 : Inv X pins σ H1 { s1 with heap := h' } := I1.kept (t' := s1.toks) hk
  refine ⟨s1.heap.objs.size + 1, [s1.heap.objs.size + 1, s1.heap.objs.size], _, _, H1, rfl, I2, turn_enumT a (s1.heap.objs.size + 1) s1.heap.objs.size c, ⟨⟨.none, by simpa using he⟩, ⟨_, ho, rfl, rfl⟩, Nat.succ_ne_self _⟩, fun b hb => ?_, q⟩
  have hle : s1.heap.objs.size ≤ b := by
    have e' : b = s1.heap.objs.size + 1 ∨ b = s1.heap.objs.size := by simpa using hb
    rcases e' with z | z
    · rw [z]; exact Nat.le_add_right _ _
    · rw [z]; exact Nat.le_refl _
  exact I1.fpOk hle (I1.hok.fresh hle)
theorem pi_enT {ta : TA} (hg : Gl X "enumerate") (hm : X.mg "enumerate" = none) (ha : PA X [e] ta) (hs : starEach [e] X.env = [(false, eval e X.env)] := by rfl) : PI X (.Tuple elts kk tpos) (.Call (.Name "enumerate" p) [e] [] pos) (iEn X.K ta) := by
  refine ⟨fun pins s σ H R I h => ?_⟩
  refine Call_ (ld_blt I hg hm boot_enumerate (PyProof.Rows.callWith_type1 (thn (ha.run pos pins s σ H _ I h) fun us s1 ⟨vs, H1, I1, r1, q1⟩ => ?_) hs rfl))
  obtain ⟨a, xs, ex, hq, q⟩ := q1
  subst ex
  cases r1 with
  | cons r rr =>
    cases rr
    cases r
    obtain ⟨its, rv, p', hz⟩ := I1.tuple hq
    exact callEnum1 (begins_tuple a its.toArray) p' fun h' he ho hk => walkEn I1 p' he ho hk q
/-! .. with start= -/
theorem callTyKw {M : Model} {A : Around} {E : Value → Shared → Prop} {s : Shared} {ps : Pos} {T : String} {fst : List Value} {as : List (Bool × Sem Value)} {kws : List (Option Str × Sem Value)} {Q : Value → Shared → Prop} (hp : as.any (·.1) = false) (hn : kws.any (·.1.isNone) = false)
    (h : wpAny M A (evalArgs (.type T) true as kws) (fun a s1 => wpAny M A (call (.type T) (fst ++ a.pos) a.kw) Q E s1) E s) : wpAny M A (callWith ps (.type T) fst as kws) Q E s := by
  unfold callWith
  refine wpAny_bind (wpAny_holding (wpAny_mono h (fun a s1 h1 => wpAny_bind (wpAny_standAt ?_)) fun _ _ z => z))
  simp only [hp, hn, Bool.or_false]
  refine wpAny_bind (wpAny_pure ?_)
  exact wpAny_bind (wpAny_mono h1 (fun r s2 hr => wpAny_bind (wpAny_holding (wpAny_point (wpAny_pure hr)))) fun _ _ z => z)
def iEnK (K : PySem.W.Frag) (tl tk : TA) : TI := fun σ H R => tl σ H fun vs H1 => tk σ H1 fun zs H2 => ∃ a xs c, vs = [.ref a] ∧ zs = [.int c] ∧ -(2 ^ 63) ≤ c ∧ c < 2 ^ 63 ∧ SqT K H2 a xs ∧ R (Itn K a c) H2
theorem pi_enK {ta tk : TA} {kp : Pos} (hg : Gl X "enumerate") (hm : X.mg "enumerate" = none) (ha : PA X [e] ta) (hk : PK X [⟨some "start", a, kp⟩] tk)
    (he : backTo pos (starEach [e] X.env) = (false, eval e X.env) :: backTo pos (starEach [] X.env) := by rfl) (hpl : (backTo pos (starEach [e] X.env)).any (·.1) = false := by rfl)
    (hall : (backToKw pos (keywordEach [⟨some "start", a, kp⟩] X.env)).all (·.1.isSome) = true := by rfl) (hnone : (backToKw pos (keywordEach [⟨some "start", a, kp⟩] X.env)).any (·.1.isNone) = false := by rfl)
    (hks : (backToKw pos (keywordEach [⟨some "start", a, kp⟩] X.env)).filterMap (·.1) = [("start" : Str)] := by rfl) : PI X (.Tuple elts kk tpos) (.Call (.Name "enumerate" p) [e] [⟨some "start", a, kp⟩] pos) (iEnK X.K ta tk) := by
  refine ⟨fun pins s σ H R I h => ?_⟩
  refine wpAny_Call_Name_kw (ld_blt I hg hm boot_enumerate (callTyKw hpl hnone ?_))
  have run : wpAny (model X.prog X.w) X.A (spliced (backTo pos (starEach [e] X.env))) (fun us s1 => wpAny (model X.prog X.w) X.A (evalAll ((backToKw pos (keywordEach [⟨some "start", a, kp⟩] X.env)).map (·.2)))
      (fun ws s2 => wpAny (model X.prog X.w) X.A (call (.type "enumerate") us ([("start" : Str)].zip ws)) (fun v s3 => wpAny (model X.prog X.w) X.A (pyIter v) (PIE X pins σ (.Tuple elts kk tpos) R) X.xe s3) X.xe s2) X.xe s1) X.xe s := by
    refine thn (ha.run pos pins s σ H _ I h) fun us s1 ⟨vs, H1, I1, r1, q1⟩ => thn (hk.run pos pins s1 σ H1 _ I1 q1) fun ws s2 ⟨zs, H2, I2, r2, q2⟩ => ?_
    obtain ⟨ad, xs, c, ex, ez, c1, c2, hq, q⟩ := q2
    subst ex ez
    cases r1 with
    | cons r rr =>
      cases rr
      cases r
      obtain ⟨u, rfl, ru⟩ := r2.one
      obtain ⟨t, rfl⟩ := ru
      obtain ⟨its, rv, p', hz⟩ := I2.tuple hq
      exact enum_begins_start (begins_tuple ad its.toArray) p' c1 c2 fun h' he ho _ hk => walkEn I2 p' he ho hk q
  rw [he] at run ⊢
  refine PyProof.Rows.evalArgs_kwB hall (thn run fun us s1 q1 => thn q1 fun ws s2 q2 => ?_)
  rw [hks]
  exact q2
def enum (c : Int) (ds : List D) : List D := (List.range ds.length).map fun i => .tup [.int (c + (i : Nat)), ds.getD i .non]
@[simp] def iE (gs : SAs) : SI := fun Γ κ Ex => gs Γ (fun as Γ' => match as with | [a] => rdF Γ' a fun d => (match d with | .tup ds => κ (enum 0 ds) Γ' | .tun ds => κ (enum 0 ds) Γ' | _ => False) | _ => False) Ex
theorem ij_enum {gs : SAs} (hg : Gl X "enumerate") (hm : X.mg "enumerate" = none) (ha : AsJ X pa [e] gs) (hs : starEach [e] X.env = [(false, eval e X.env)] := by rfl) : IJ X pa (.Tuple elts kk tpos) (.Call (.Name "enumerate" p) [e] [] pos) (iE gs) := ⟨fun W tk =>
  PI.imp (pi_enT hg hm (ha.run W tk) hs) fun σ H Q ⟨F, Γ, R, Ex, Kc, o, xl, q, k⟩ => ⟨F, Γ, R, Ex, _, o, xl, q, fun as Γ' h1 vs F' H' R' o' s' a' => by
    split at h1
    · cases a' with
      | cons a1 a2 =>
        cases a2
        obtain ⟨d, rp, h2⟩ := rdF_ok o' a1 h1
        split at h2
        · cases rp with
          | tup q1 q2 => exact ⟨_, _, rfl, o'.sub.sqT q1, k _ _ h2 _ F' H' R' o' s' (itd_enum q1 q2)⟩
        · cases rp with
          | tun q1 _ q2 => exact ⟨_, _, rfl, o'.sub.sqT (.inl (.inr ⟨_, q1⟩)), k _ _ h2 _ F' H' R' o' s' (itd_enum (.inl (.inr ⟨_, q1⟩)) q2)⟩
        · exact h2.elim
    · exact h1.elim⟩⟩
@[simp] def iEK (gs : SAs) (ga : SA) : SI := fun Γ κ Ex => gs Γ (fun as Γ1 => ga Γ1 (fun b Γ2 => rdK Γ2 b fun dc => match as, dc with | [a], .int c => -(2 ^ 63) ≤ c ∧ c < 2 ^ 63 ∧ rdF Γ2 a fun d => (match d with | .tup ds => κ (enum c ds) Γ2 | _ => False) | _, _ => False) Ex) Ex
theorem ij_enumK {gs : SAs} {kp : Pos} (hg : Gl X "enumerate") (hm : X.mg "enumerate" = none) (ha : AsJ X pa [e] gs) (hb : AJ X pa a ga)
    (he : backTo pos (starEach [e] X.env) = (false, eval e X.env) :: backTo pos (starEach [] X.env) := by rfl) (hpl : (backTo pos (starEach [e] X.env)).any (·.1) = false := by rfl)
    (hall : (backToKw pos (keywordEach [⟨some "start", a, kp⟩] X.env)).all (·.1.isSome) = true := by rfl) (hnone : (backToKw pos (keywordEach [⟨some "start", a, kp⟩] X.env)).any (·.1.isNone) = false := by rfl)
    (hks : (backToKw pos (keywordEach [⟨some "start", a, kp⟩] X.env)).filterMap (·.1) = [("start" : Str)] := by rfl) : IJ X pa (.Tuple elts kk tpos) (.Call (.Name "enumerate" p) [e] [⟨some "start", a, kp⟩] pos) (iEK gs ga) := ⟨fun W tk =>
  PI.imp (pi_enK hg hm (ha.run W tk) (pk_cons (hb.run W tk) pk_nil) he hpl hall hnone hks) fun σ H Q ⟨F, Γ, R, Ex, Kc, o, xl, q, k⟩ => ⟨F, Γ, R, Ex, _, o, xl, q, fun as Γ1 h1 vs F1 H1 R1 o1 s1 a1 => ⟨F1, Γ1, R1, Ex, _, o1, xl.step s1, h1, fun b Γ2 h2 v F2 H2 R2 o2 s2 b2 => by
    obtain ⟨dc, bp, h3⟩ := rdK_ok o2 b2 h2
    split at h3
    · obtain ⟨c1, c2, h3⟩ := h3
      cases a1 with
      | cons x1 x2 =>
        cases x2
        obtain ⟨d, rp, h4⟩ := rdF_ok o2 (x1.mono s2.sub) h3
        split at h4
        · cases rp with
          | tup q1 q2 => exact ⟨_, _, _, rfl, by rw [bp.int], c1, c2, o2.sub.sqT q1, k _ _ h4 _ F2 H2 R2 o2 (s1.trans s2) (itd_enum q1 q2)⟩
        · exact h4.elim
    · exact h3.elim⟩⟩⟩
end
end L3
namespace L3
open PySem PySem.Spec PyProof.Rows L2

/-! ### the law's end: as a promise over data, where the def's promise asks for no guard -/
/-- nothing is tracked but what is known to the object -/
def Tied (H : Hp) : Prop := ∀ b, H b = none ∨ ∃ o u, H b = some (.frz o u)
theorem law_callG {P : Program} {w : World} {K : PySem.W.Frag} {mg mb : Str → Option Value} {k : Nat} {fa a : Addr} {fd : FuncData} {x : Str} {fc : SE} {s1 : Shared} {vs : List Value} {ns : List Int}
    (KX : K.In s1.heap) (hns : s1.heap.Ns mainGlobals mg) (hb : s1.heap.Ns builtinsNs mb) (hbb : ∀ x : Str, x ≠ "__name__" → mb x = bootBuiltins x) (hlim : s1.heap.NoLimit) (hg : s1.gens = #[]) (hsee : ∃ mm, s1.heap.Ns sysModules mm) (hK1 : K.lookup sysModules = none)
    (ha : s1.heap.get? a = some { cls := .type "list", data := .seq vs.toArray }) (hi : IntsAre vs ns) (hl : ns.length ≤ sizeLine) (hr : Room k callerA)
    (G : ∀ base : Heap, K.In base → base.Ns mainGlobals mg → FnG P w K mg base k fa fd [x] (spF K 1 fc)) (hbind : ∀ (s : Shared) (u : Value), BindsTo s fd ⟨[u], []⟩ [(x, u)])
    (hfc : ∀ κ Ex, κ (.leaf (.bl true)) [.v (.scr ns)] → fc [.v (.scr ns)] κ Ex) :
    codeAny (model P w) callerA (.call (.ref fa) ⟨[.ref a], []⟩) (fun r s' => r = .ok (.ret (.bool true)) ∧ OldK s1.heap s'.heap ∧ s'.os = s1.os ∧ AllBare s'.gens) s1 := by
  have rv := vals_ints hi
  have lenV := hi.length
  obtain ⟨mm, o1, es1, ep1, he1, hd1, _⟩ := hsee
  have na1 : a ≠ sysModules := fun z => by
    rw [z, he1] at ha
    cases ha
    cases hd1
  -- what is tracked: the system's own table, and the script (or nothing of it)
  have core : ∀ H : Hp, Tied H → SqL K H a (ns.map V.int) → HOk P w H s1.heap → (∀ b, H b ≠ none → b = a ∨ b = sysModules) → (H a ≠ none → K.lookup a = none) → (∃ o φ, H sysModules = some (.frz o (.ext φ))) →
      codeAny (model P w) callerA (.call (.ref fa) ⟨[.ref a], []⟩) (fun r s' => r = .ok (.ret (.bool true)) ∧ OldK s1.heap s'.heap ∧ s'.os = s1.os ∧ AllBare s'.gens) s1 := by
    intro H hO hS hok hA hK hsy
    have at_base : ∀ {b : Addr} {o : Obj}, s1.heap.get? b = some o → H b = none → (hidT s1.heap H).get? b = some o := fun e n => hidT_get e n
    have no_dict : ∀ {b : Addr} {o : Obj} {es : Array DictEntry} {ep : Nat}, b ≠ sysModules → s1.heap.get? b = some o → o.data = .dict es ep → H b = none := fun {b o es ep} nb e d => by
      cases q : H b with
      | none => rfl
      | some u =>
        rcases hA b (by rw [q]; simp) with e' | e'
        · subst e'
          rw [ha] at e; cases e
          have d' : Data.seq vs.toArray _ = Data.dict es ep := d
          cases d'
        · exact absurd e' nb
    have ns_base : ∀ {b : Addr} {m : Str → Option Value}, b ≠ sysModules → s1.heap.Ns b m → (hidT s1.heap H).Ns b m := fun {b m} nb ⟨o, es, ep, e, d, r⟩ => ⟨o, es, ep, at_base e (no_dict nb e d), d, r⟩
    have hKb : K.In (hidT s1.heap H) := fun b o e => at_base (KX b o e) (by
      cases q : H b with
      | none => rfl
      | some u =>
        rcases hA b (by rw [q]; simp) with e' | e'
        · subst e'
          rw [hK (by rw [q]; simp)] at e; cases e
        · rw [e', hK1] at e; cases e)
    have hM : Mod K mg (hidT s1.heap H) := ⟨hKb, ns_base (by decide) hns, ⟨mb, ns_base (by decide) hb, hbb⟩, let ⟨mc, h1, h2⟩ := hlim; ⟨mc, ns_base (by decide) h1, h2⟩⟩
    have e0 : Env0 P w K mg (hidT s1.heap H) callerA [] s1 H := ⟨rfl, hM, fun b o e => of_hidT e, Nat.le_of_eq (hidT_size _ _), trivial, fun b hb => absurd (show b ∈ ([] : List Addr) from hb) (by simp), hok, .of_eq hg⟩
    have hsp : spF K 1 fc [.ref a] H (fun v _ => v = .bl true) fun _ _ _ => False := by
      refine ⟨rfl, H, [.v (.scr ns)], fun _ => [], fun _ _ => False, fun t Γ => t = .leaf (.bl true) ∧ Γ = [.v (.scr ns)], ⟨.refl, rfl, fun i s e => ?_, fun _ _ _ h => (nomatch h), fun _ _ h => (nomatch h), fun _ _ h => (nomatch h), hsy⟩, fun _ _ _ _ _ _ _ h => h.elim, hfc _ _ ⟨rfl, rfl⟩, ?_⟩
      · cases i with
        | zero =>
          have e : S.v (.scr ns) = s := by simpa using e
          subst e
          exact ⟨rfl, _, rfl, .scr hS⟩
        | succ i => simp at e
      · rintro t Γ' ⟨rfl, rfl⟩ v F' H' R' r o' s' x'
        have q := x'.own
        cases q with
        | leaf q => cases q; rfl
    refine codeAny_mono ((G _ hKb (ns_base (by decide) hns)).run callerA [] s1 H ⟨[.ref a], []⟩ [.ref a] [.ref a] _ _ hr rfl e0 (hbind s1 (.ref a)) (.cons rfl .nil) hsp) fun r s' h => ?_
    cases r with
    | error e =>
      obtain ⟨_, _, _, _, _, _, _, _, _, _, _, _, z⟩ := h
      exact z.elim
    | ok fl =>
      cases fl with
      | next => exact False.elim h
      | brk => exact False.elim h
      | cont => exact False.elim h
      | ret u =>
        obtain ⟨v, H', os, bare, un, hok', r', q⟩ := h
        have q' : v = .bl true := q
        subst q'
        obtain rfl : u = Value.bool true := r'
        refine ⟨rfl, OldK.of_keep fun b o e => ?_, os, bare⟩
        cases q : H b with
        | none => exact un.keep b o e q (by intro z; exact absurd (show b ∈ ([] : List Addr) from z) (by simp)) (by simp)
        | some u =>
          rcases hO b with z | ⟨ob, u', z⟩
          · rw [q] at z; cases z
          · have z2 := un.frzs b ob _ z
            obtain ⟨e1, _⟩ := hok b _ z
            obtain ⟨e2, _⟩ := hok' b _ z2
            rw [e] at e1; cases e1
            exact e2
  have sysOk : ∀ H : Hp, ObjOk P w H s1.heap sysModules (.frz o1 (.ext fun _ => True)) := fun H => ⟨he1, trivial, ⟨_, he1⟩, fun _ _ _ _ => trivial⟩
  cases hk : K.lookup a with
  | some o =>
    have e := KX a o hk
    rw [ha] at e
    cases e
    refine core (fun b => if b = sysModules then some (.frz o1 (.ext fun _ => True)) else none) (fun b => ?_) (.inr ⟨_, vs.toArray, _, hk, rfl, rfl, rfl, by rw [List.size_toArray, lenV]; exact hl, by simpa using rv⟩) (fun b u z => ?_) (fun b z => ?_) (fun z => absurd (if_neg na1) z) ⟨_, _, if_pos rfl⟩
    · by_cases hb : b = sysModules
      · exact .inr ⟨_, _, if_pos hb⟩
      · exact .inl (if_neg hb)
    · by_cases hb : b = sysModules
      · have z' := (if_pos hb).symm.trans z
        cases z'
        subst hb
        exact sysOk _
      · have z' := (if_neg hb).symm.trans z
        cases z'
    · by_cases hb : b = sysModules
      · exact .inr hb
      · exact absurd (if_neg hb) z
  | none =>
    refine core (fun b => if b = a then some (.frz { cls := .type "list", data := .seq vs.toArray } (.lst (ns.map V.int))) else if b = sysModules then some (.frz o1 (.ext fun _ => True)) else none) (fun b => ?_) (.inl (.inr ⟨{ cls := .type "list", data := .seq vs.toArray }, if_pos rfl⟩)) (fun b u z => ?_) (fun b z => ?_) (fun _ => hk) ⟨_, _, (if_neg (Ne.symm na1)).trans (if_pos rfl)⟩
    · by_cases hb : b = a
      · exact .inr ⟨_, _, if_pos hb⟩
      · by_cases hb2 : b = sysModules
        · exact .inr ⟨_, _, (if_neg hb).trans (if_pos hb2)⟩
        · exact .inl ((if_neg hb).trans (if_neg hb2))
    · by_cases hb : b = a
      · have z' := (if_pos hb).symm.trans z
        cases z'
        subst hb
        exact ⟨ha, by rw [List.length_map]; exact hl, vs, _, rv, ha⟩
      · by_cases hb2 : b = sysModules
        · have z' := ((if_neg hb).trans (if_pos hb2)).symm.trans z
          cases z'
          subst hb2
          exact sysOk _
        · have z' := ((if_neg hb).trans (if_neg hb2)).symm.trans z
          cases z'
    · by_cases hb : b = a
      · exact .inl hb
      · by_cases hb2 : b = sysModules
        · exact .inr hb2
        · exact absurd ((if_neg hb).trans (if_neg hb2)) z
theorem walk_ofG {l : PySem.W.OpenLaw} {n k : Nat} {q : Program} {loose : List Str} {XP : (Str → Option Value) → Heap → Prop} {YP : World → Heap → Prop} {d : DefRec} {K : Params → PySem.W.Frag} {fc : SE} {x : Str}
    (hn : l.most = some n) (hn2 : n ≤ sizeLine) (hdf : d.params.defaults = []) (hr : Room k callerA) (hin : importsNone q = true) (hK1 : ∀ p : Params, (K p).lookup sysModules = none)
    (hY : ∀ (w : World) (h : Heap), YP w h → (K w.params).In h)
    (G : ∀ (w : World) (mg : Str → Option Value) (fa : Addr) (h : Heap), (K w.params).In h → h.Ns mainGlobals mg → mg d.name = some (.ref fa) →
      ∃ fd : FuncData, (∀ (s : Shared) (u : Value), BindsTo s fd ⟨[u], []⟩ [(x, u)]) ∧
        ∀ base : Heap, (K w.params).In base → base.Ns mainGlobals mg → FnG l.prog w (K w.params) mg base k fa fd [x] (spF (K w.params) 1 fc))
    (hfc : ∀ (ns : List Int) κ Ex, ns.length ≤ n → κ (.leaf (.bl true)) [.v (.scr ns)] → fc [.v (.scr ns)] κ Ex) :
    PySem.W.WalkO q loose XP YP l.row.toRowW d [] (fun f vs => PySem.call f vs) := by
  refine Att.attach_call hn hdf fun w s0 s1 mg mb fa o pm cd doc a vs ns G' Y ho hd hcd hmg hobj hints hlen hg => ?_
  have KX := hY w _ Y
  obtain ⟨fd, hb, hF⟩ := G w mg fa _ KX G'.T.g hmg
  have sm : ∃ mm, s1.heap.Ns sysModules mm := let ⟨mm, e, _⟩ := (G'.T.seer hin).mods; ⟨mm, e⟩
  exact law_callG KX G'.T.g G'.T.b G'.T.builtins G'.T.nolimit hg sm (hK1 _) hobj hints (Nat.le_trans hlen hn2) hr hF hb fun κ Ex h => hfc ns κ Ex hlen h
end L3
namespace L3
open PySem PySem.Spec PyProof.Rows L2
section
variable {X : Cx} {pa : List V} {pos px py pt pt2 : Pos} {a b : Expr} {gs : SAs} {x y : Str} {kt k2 : Nat}
/-- x, y = a, b -/
@[simp] def zPar (i j : Nat) (gs : SAs) : SS := fun k Γ Ex => gs Γ (fun as Γ1 => vals as fun ds => match ds with | [d1, d2] => k.nx ((Γ1.set i (.v d1)).set j (.v d2)) | _ => False) Ex
theorem sj_par {i j : Nat} (hc : X.calm = true) (hN : X.N.Nodup) (hi : X.N[i]? = some x) (hj : X.N[j]? = some y) (hij : i ≠ j) (hx : X.env.scope.names.lookup x = some .local) (hy : X.env.scope.names.lookup y = some .local) (ha : AsJ X pa [a, b] gs)
    (hw : swappedStores [.Tuple [.Name x px, .Name y py] kt pt] (.Tuple [a, b] k2 pt2) X.env = pure (some [x, y])) (hs : swapsWithSole [.Tuple [.Name x px, .Name y py] kt pt] (.Tuple [a, b] k2 pt2) pos.line X.env = pure false := by rfl) :
    SJ X pa (.Assign [.Tuple [.Name x px, .Name y py] kt pt] (.Tuple [a, b] k2 pt2) pos) (zPar i j gs) := ⟨fun W tk => PS.imp (ps_par hc hN hi hj hij hx hy (ha.run W tk) hw hs) fun D σ H ⟨F, Γ, R, Ex, k, o, xl, q, n, _⟩ =>
  ⟨F, Γ, R, Ex, _, o, xl σ, q, fun as Γ1 h1 vs F1 H1 R1 o1 s1 a1 => by
    obtain ⟨ds, rp, h2⟩ := vals_ok a1 h1
    split at h2
    · cases rp with
      | cons r1 rp =>
        cases rp with
        | cons r2 rp =>
          cases rp
          refine ⟨_, _, rfl, ?_⟩
          have o2 := (o1.setV (i := i) r1).setV (i := j) r2
          exact n _ h2 _ F1 H1 _ o2 (s1.le fun k a h => by
            try dsimp only at h
            split at h
            · cases h
            · split at h
              · cases h
              · exact h)
    · exact h2.elim⟩⟩
end
end L3
namespace L3
open PySem PySem.Spec PyProof.Rows L2
/-- a def of the text, as the top has made it -/
structure Df (K : PySem.W.Frag) (mg : Str → Option Value) (x : Str) (st : Stmt) (ps : List Str) : Type where
  f : Addr
  fd : FuncData
  F : Fun K x x st f fd
  B : Binds K fd ps []
  M : mg x = some (.ref f)
  L : PySem.W.nsIn K mainGlobals x = some (some (.ref f))
theorem hu64 {A : Around} {k : Nat} (hr : Room k A) : A.units + 64 < cLine := by have := hr.un; omega
end L3
namespace L3
open PySem PySem.Spec PyProof.Rows L2
section
variable {P : O → Prop} {Γ : List S} {κ : D → Prop} {i j : Int} {d : D} {xs ys : List D} {n : Nat} {b : Bool} {x y : Str} {t : O} {q : Option Nat} {ns : List Int}
/-- xs, n times -/
def reps {α : Type} (n : Nat) (xs : List α) : List α := (List.replicate n xs).flatten
@[simp] theorem rdK_val : rdK Γ (.val d) κ = κ d := rfl
@[simp] theorem rdK_v (h : Γ[n]? = some (.v d)) : rdK Γ (.slot n) κ = κ d := by unfold rdK; dsimp only; rw [h]
@[simp] theorem rdK_ls (h : Γ[n]? = some (.o q (.ls xs))) : rdK Γ (.slot n) κ = κ (.lst xs) := by unfold rdK; dsimp only; rw [h]
@[simp] theorem rdK_lf (h : Γ[n]? = some (.o q (.leaf d))) : rdK Γ (.slot n) κ = κ d := by unfold rdK; dsimp only; rw [h]
@[simp] theorem rdF_val : rdF Γ (.val d) κ = κ d := rfl
@[simp] theorem rdF_v (h : Γ[n]? = some (.v d)) : rdF Γ (.slot n) κ = κ d := by
  unfold rdF
  dsimp only
  rw [h]
variable {K : O → List S → Prop} {E : Xk}
@[simp] theorem sVar_v (h : Γ[n]? = some (.v d)) : sVar n Γ K E = K (.leaf d) Γ := by unfold sVar; rw [h]
@[simp] theorem sVar_o (h : Γ[n]? = some (.o none t)) : sVar n Γ K E = K (.leaf t.fz) (Γ.set n (.v t.fz)) := by unfold sVar; rw [h]
@[simp] theorem kAdd_i : kAdd (.int i) (.int j) P = P (.leaf (.int (i + j))) := rfl
@[simp] theorem kAdd_s : kAdd (.str x) (.str y) P = (x.length + y.length ≤ sizeLine ∧ P (.leaf (.str (x ++ y)))) := rfl
@[simp] theorem kAdd_t : kAdd (.tup xs) (.tup ys) P = (xs.length + ys.length ≤ sizeLine ∧ P (.leaf (.tup (xs ++ ys)))) := rfl
@[simp] theorem kAdd_l : kAdd (.lst xs) (.lst ys) P = (xs.length + ys.length ≤ sizeLine ∧ P (.ls (xs ++ ys))) := rfl
@[simp] theorem kI_i {C : Int → Int → Prop} {g : Int → Int → D} : kI C g (.int i) (.int j) P = (C i j ∧ P (.leaf (g i j))) := rfl
@[simp] theorem kI0_i {g : Int → Int → D} : kI0 g (.int i) (.int j) P = P (.leaf (g i j)) := rfl
@[simp] theorem kMul_i : kMul (.int i) (.int j) P = (CMulW i j ∧ P (.leaf (.int (i * j)))) := rfl
@[simp] theorem kMul_t : kMul (.tup xs) (.int j) P = ((xs ≠ [] ∧ 2 ≤ j ∧ xs.length * j.toNat ≤ sizeLine) ∧ P (.leaf (.tup (reps j.toNat xs)))) := rfl
@[simp] theorem kIsN_n : kIsN d .non P = P (.leaf (.bl d.isNon)) := rfl
@[simp] theorem kNotN_n : kNotN d .non P = P (.leaf (.bl (!d.isNon))) := rfl
@[simp] theorem isNon_n : D.non.isNon = true := rfl
@[simp] theorem isNon_i : (D.int i).isNon = false := rfl
@[simp] theorem isNon_t : (D.tup xs).isNon = false := rfl
@[simp] theorem isNon_b : (D.bl b).isNon = false := rfl
@[simp] theorem kEq_d {a c : D} : kEq a c P = (okEq a c ∧ P (.leaf (.bl (eqD a c)))) := rfl
@[simp] theorem kNe_d {a c : D} : kNe a c P = (okEq a c ∧ P (.leaf (.bl (!eqD a c)))) := rfl
@[simp] theorem kRepr_d : kRepr [d] P = (okRepr d ∧ P (.leaf (.str d.rep))) := rfl
@[simp] theorem kAbs_i : kAbs [.int i] P = P (.leaf (.int (if i < 0 then -i else i))) := rfl
@[simp] theorem kLen_t : kLen [.tup xs] P = P (.leaf (.int xs.length)) := rfl
@[simp] theorem kLen_l : kLen [.lst xs] P = P (.leaf (.int xs.length)) := rfl
@[simp] theorem kTuple_l : kTuple [.lst xs] P = P (.leaf (.tup xs)) := rfl
@[simp] theorem kTuple_t : kTuple [.tup xs] P = P (.leaf (.tup xs)) := rfl
@[simp] theorem kList_l : kList [.lst xs] P = P (.ls xs) := rfl
@[simp] theorem kList_t : kList [.tup xs] P = P (.ls xs) := rfl
@[simp] theorem kAll_l : kAll [.lst xs] P = ∃ bs, bls xs = some bs ∧ P (.leaf (.bl (bs.all id))) := rfl
@[simp] theorem kAny_l : kAny [.lst xs] P = ∃ bs, bls xs = some bs ∧ P (.leaf (.bl (bs.any id))) := rfl
@[simp] theorem kIx_t : kIx (.tup xs) (.int i) P = ∃ d, atI xs i = some d ∧ P (.leaf d) := rfl
@[simp] theorem kIx_l : kIx (.lst xs) (.int i) P = ∃ d, atI xs i = some d ∧ P (.leaf d) := rfl
@[simp] theorem kMin2_i : kMin2 [.int i, .int j] P = P (.leaf (.int (if j < i then j else i))) := rfl
@[simp] theorem kMax2_i : kMax2 [.int i, .int j] P = P (.leaf (.int (if j > i then j else i))) := rfl
@[simp] theorem trK_b {κ : Bool → Prop} : trK (.bl b) κ = κ b := rfl
@[simp] theorem trK_n {κ : Bool → Prop} : trK .non κ = κ false := rfl
@[simp] theorem trK_i {κ : Bool → Prop} : trK (.int i) κ = κ (i != 0) := rfl
theorem reps_one {α : Type} {n : Nat} {x : α} : reps n [x] = List.replicate n x := by
  unfold reps
  induction n with
  | zero => rfl
  | succ n ih => rw [List.replicate_succ, List.flatten_cons, ih, List.replicate_succ]; rfl
/-! where an item stands -/
theorem atI_lt {α : Type} {l : List α} {k : Nat} (h : k < l.length) : atI l (k : Int) = some l[k] := atI_nat (List.getElem?_eq_getElem h)
@[simp] theorem atI_0 {α : Type} {a : α} {l : List α} : atI (a :: l) 0 = some a := atI_nat (xs := a :: l) (j := 0) rfl
@[simp] theorem atI_1 {α : Type} {a b : α} {l : List α} : atI (a :: b :: l) 1 = some b := atI_nat (xs := a :: b :: l) (j := 1) rfl
@[simp] theorem atI_2 {α : Type} {a b c : α} {l : List α} : atI (a :: b :: c :: l) 2 = some c := atI_nat (xs := a :: b :: c :: l) (j := 2) rfl
@[simp] theorem atI_3 {α : Type} {a b c d : α} {l : List α} : atI (a :: b :: c :: d :: l) 3 = some d := atI_nat (xs := a :: b :: c :: d :: l) (j := 3) rfl
@[simp] theorem atI_4 {α : Type} {a b c d e : α} {l : List α} : atI (a :: b :: c :: d :: e :: l) 4 = some e := atI_nat (xs := a :: b :: c :: d :: e :: l) (j := 4) rfl
@[simp] theorem atI_5 {α : Type} {a b c d e f : α} {l : List α} : atI (a :: b :: c :: d :: e :: f :: l) 5 = some f := atI_nat (xs := a :: b :: c :: d :: e :: f :: l) (j := 5) rfl
@[simp] theorem wbS_v {as : List Arg} {Γo : List S} {i : Nat} {d : D} : wbS as Γo i (.v d) = .v d := rfl
@[simp] theorem wbS_un {as : List Arg} {Γo : List S} {i : Nat} : wbS as Γo i .un = .un := rfl
theorem jOf_nil {i : Nat} : jOf [] i = none := rfl
theorem jOf_slot {k i : Nat} {as : List Arg} : jOf (.slot k :: as) i = if k = i then some 0 else (jOf as i).map (· + 1) := by
  unfold jOf
  rw [List.findIdx?_cons]
  by_cases h : k = i
  · simp [h]
  · simp [h]
theorem jOf_val {d : D} {i : Nat} {as : List Arg} : jOf (.val d :: as) i = (jOf as i).map (· + 1) := by
  unfold jOf
  rw [List.findIdx?_cons]
  rfl
/-- a call that is handed one thing, and values -/
theorem wb_one {as : List Arg} {Γ Γo : List S} {i j : Nat} {q q' : Option Nat} {t t' : O} (hi : Γ[i]? = some (.o q t)) (hj : jOf as i = some j) (hn : ∀ k, k ≠ i → jOf as k = none) (ho : Γo[j]? = some (.o q' t')) : wb as Γo Γ = Γ.set i (.o q t') := by
  apply List.ext_getElem?
  intro k
  rw [wb_get]
  by_cases e : k = i
  · subst e
    have hl : k < Γ.length := (List.getElem?_eq_some_iff.mp hi).1
    rw [hi, List.getElem?_set_self hl]
    show some (wbS as Γo k (.o q t)) = _
    unfold wbS
    rw [hj]
    dsimp only
    rw [ho]
  · rw [List.getElem?_set_ne (Ne.symm e)]
    cases h : Γ[k]? with
    | none => rfl
    | some s =>
      show some (wbS as Γo k s) = some s
      unfold wbS
      rw [hn k e]
      cases s <;> rfl
theorem wbS_none {as : List Arg} {Γo : List S} {i : Nat} {s : S} (h : jOf as i = none) : wbS as Γo i s = s := by
  unfold wbS
  rw [h]
  cases s <;> rfl
/-- a call whose first operand is an expression -/
theorem call_e2 {c fe : SE} {gb : SA} {Γ : List S} {κ : O → List S → Prop} {Ex : Xk} {n : Nat} (h : fe Γ (fun t Γ1 => gb Γ1 (fun b Γ2 => [Arg.val t.fz, b].length = n ∧ argL Γ2 [.val t.fz, b] 0 [.val t.fz, b] fun Γa => c Γa (fun t' Γo => shp Γa Γo ∧ κ t' (wb [.val t.fz, b] Γo Γ2)) fun x Γo => shp Γa Γo ∧ Ex x (wb [.val t.fz, b] Γo Γ2)) Ex) Ex) :
    sCallN n c (aCons (aE fe) (aCons gb aNil)) Γ κ Ex := h
/-- a call that is handed values alone -/
theorem wb_vals {as : List Arg} {Γ Γo : List S} (h : ∀ i k, jOf as i = some k → ∃ d, Γ[i]? = some (.v d)) : wb as Γo Γ = Γ := by
  apply List.ext_getElem?
  intro k
  rw [wb_get]
  cases hk : Γ[k]? with
  | none => rfl
  | some s =>
    show some (wbS as Γo k s) = some s
    unfold wbS
    cases hj : jOf as k with
    | none => cases s <;> rfl
    | some j =>
      obtain ⟨d, e⟩ := h k j hj
      rw [hk] at e
      cases e
      rfl
theorem call_vv {c : SE} {Γ : List S} {κ : O → List S → Prop} {Ex : Xk} {i j : Nat} {d e : D} (hi : Γ[i]? = some (.v d)) (hj : Γ[j]? = some (.v e))
    (h : c [.v d, .v e] (fun t Γo => shp [.v d, .v e] Γo ∧ κ t Γ) (fun x Γo => shp [.v d, .v e] Γo ∧ Ex x Γ)) : sCallN 2 c (aCons (aV i) (aCons (aV j) aNil)) Γ κ Ex := by
  refine ⟨⟨_, hi, by simp⟩, ⟨_, hj, by simp⟩, rfl, ?_⟩
  show argL Γ [.slot i, .slot j] 0 [.slot i, .slot j] _
  unfold argL
  rw [hi]
  dsimp only
  unfold argL
  rw [hj]
  have w : ∀ Γo, wb [.slot i, .slot j] Γo Γ = Γ := fun Γo => wb_vals fun k m hk => by
    rw [jOf_slot] at hk
    by_cases e1 : i = k
    · subst e1; exact ⟨_, hi⟩
    · rw [if_neg e1, jOf_slot] at hk
      by_cases e2 : j = k
      · subst e2; exact ⟨_, hj⟩
      · rw [if_neg e2, jOf_nil] at hk
        cases hk
  show c [.v d, .v e] (fun t Γo => shp [.v d, .v e] Γo ∧ κ t (wb [.slot i, .slot j] Γo Γ)) (fun x Γo => shp [.v d, .v e] Γo ∧ Ex x (wb [.slot i, .slot j] Γo Γ))
  simp only [w]
  exact h
/-! loops by what one turn does -/
theorem compGo_map {g : SG} {c : ST} {f : SE} {vs : List Nat} {Γ0 : List S} (r : D → Option D) : ∀ {ds : List D} {κ : List D → List S → Prop},
    (∀ d ∈ ds, ∀ (Y : D → List S → Prop) (N : List S → Prop), (match r d with | some y => Y y Γ0 | none => N Γ0) → g d Γ0 fun Γ1 => c Γ1 (fun b Γ2 => if b = true then f Γ2 (fun t Γ3 => Y t.fz (clr vs Γ3)) noX else N (clr vs Γ2)) noX) →
    κ (ds.filterMap r) Γ0 → compGo g c f vs ds Γ0 κ
  | [], κ, _, h => h
  | d :: ds, κ, hs, h => by
    unfold compGo
    refine hs d List.mem_cons_self (fun y Γ => compGo g c f vs ds Γ fun ys Γ4 => κ (y :: ys) Γ4) (fun Γ => compGo g c f vs ds Γ κ) ?_
    have hs' := fun e he => hs e (List.mem_cons_of_mem _ he)
    rw [List.filterMap_cons] at h
    cases e : r d with
    | none => rw [e] at h; exact compGo_map r hs' h
    | some y => rw [e] at h; exact compGo_map r hs' h
/-- a comprehension by an invariant; what it keeps has the property A -/
theorem compGo_inv {g : SG} {c : ST} {f : SE} {vs : List Nat} {ds : List D} {Γ0 : List S} {κ : List D → List S → Prop} (I : Nat → List S → Prop) (A : D → Prop)
    (turn : ∀ i d, ds[i]? = some d → ∀ Γ, I i Γ → ∀ (Y : D → List S → Prop) (N : List S → Prop), (∀ y Γ', I (i + 1) Γ' → A y → Y y Γ') → (∀ Γ', I (i + 1) Γ' → N Γ') → g d Γ fun Γ1 => c Γ1 (fun b Γ2 => if b = true then f Γ2 (fun t Γ3 => Y t.fz (clr vs Γ3)) noX else N (clr vs Γ2)) noX)
    (start : I 0 Γ0) (fin : ∀ ys Γ', I ds.length Γ' → (∀ y ∈ ys, A y) → ys.length ≤ ds.length → κ ys Γ') : compGo g c f vs ds Γ0 κ := by
  have go : ∀ (es : List D) (i : Nat) (Γ : List S) (κ : List D → List S → Prop), (∀ j, es[j]? = ds[i + j]?) → i + es.length = ds.length → I i Γ → (∀ ys Γ', I ds.length Γ' → (∀ y ∈ ys, A y) → ys.length ≤ es.length → κ ys Γ') → compGo g c f vs es Γ κ := by
    intro es
    induction es with
    | nil => intro i Γ κ _ hl h fin; exact fin [] Γ (by rw [← hl]; exact h) (fun _ h => nomatch h) (Nat.le_refl _)
    | cons d es ih =>
      intro i Γ κ hj hl h fin
      unfold compGo
      have hj' : ∀ j, es[j]? = ds[i + 1 + j]? := fun j => by
        have := hj (j + 1)
        rw [show i + 1 + j = i + (j + 1) by omega]
        simpa using this
      have hl' : i + 1 + es.length = ds.length := by rw [← hl, List.length_cons]; omega
      refine turn i d (by have := hj 0; simpa using this.symm) Γ h (fun y Γ => compGo g c f vs es Γ fun ys Γ4 => κ (y :: ys) Γ4) (fun Γ => compGo g c f vs es Γ κ) (fun y Γ' h' ay => ?_) (fun Γ' h' => ?_)
      · exact ih (i + 1) Γ' _ hj' hl' h' fun ys Γ2 i2 ays hle => fin (y :: ys) Γ2 i2 (fun z hz => (List.mem_cons.mp hz).elim (fun e => e ▸ ay) (ays z)) (Nat.succ_le_succ hle)
      · exact ih (i + 1) Γ' κ hj' hl' h' fun ys Γ2 i2 ays hle => fin ys Γ2 i2 ays (Nat.le_succ_of_le hle)
  exact go ds 0 Γ0 κ (fun j => by rw [Nat.zero_add]) (by rw [Nat.zero_add]) start fin
/-- .. that keeps each item -/
theorem compGo_all {g : SG} {f : SE} {vs : List Nat} {ds : List D} {Γ0 : List S} {κ : List D → List S → Prop} (I : Nat → List S → Prop) (A : D → Prop)
    (turn : ∀ i d, ds[i]? = some d → ∀ Γ, I i Γ → ∀ (Y : D → List S → Prop), (∀ y Γ', I (i + 1) Γ' → A y → Y y Γ') → g d Γ fun Γ2 => f Γ2 (fun t Γ3 => Y t.fz (clr vs Γ3)) noX)
    (start : I 0 Γ0) (fin : ∀ ys Γ', I ds.length Γ' → (∀ y ∈ ys, A y) → ys.length = ds.length → κ ys Γ') : compGo g cYes f vs ds Γ0 κ := by
  have go : ∀ (es : List D) (i : Nat) (Γ : List S) (κ : List D → List S → Prop), (∀ j, es[j]? = ds[i + j]?) → i + es.length = ds.length → I i Γ → (∀ ys Γ', I ds.length Γ' → (∀ y ∈ ys, A y) → ys.length = es.length → κ ys Γ') → compGo g cYes f vs es Γ κ := by
    intro es
    induction es with
    | nil => intro i Γ κ _ hl h fin; exact fin [] Γ (by rw [← hl]; exact h) (fun _ h => nomatch h) rfl
    | cons d es ih =>
      intro i Γ κ hj hl h fin
      unfold compGo
      have hj' : ∀ j, es[j]? = ds[i + 1 + j]? := fun j => by
        have := hj (j + 1)
        rw [show i + 1 + j = i + (j + 1) by omega]
        simpa using this
      have hl' : i + 1 + es.length = ds.length := by rw [← hl, List.length_cons]; omega
      exact turn i d (by have := hj 0; simpa using this.symm) Γ h (fun y Γ => compGo g cYes f vs es Γ fun ys Γ4 => κ (y :: ys) Γ4) fun y Γ' h' ay =>
        ih (i + 1) Γ' _ hj' hl' h' fun ys Γ2 i2 ays hle => fin (y :: ys) Γ2 i2 (fun z hz => (List.mem_cons.mp hz).elim (fun e => e ▸ ay) (ays z)) (by rw [List.length_cons, List.length_cons, hle])
  exact go ds 0 Γ0 κ (fun j => by rw [Nat.zero_add]) (by rw [Nat.zero_add]) start fin
/-- a for loop by an invariant -/
theorem forGo_inv {g : SG} {z : SS} {k : Kn} {Ex : Xk} {ds : List D} {Γ0 : List S} (I : Nat → List S → Prop)
    (turn : ∀ i d, ds[i]? = some d → ∀ Γ, I i Γ → ∀ N : List S → Prop, (∀ Γ', I (i + 1) Γ' → N Γ') → g d Γ fun Γ1 => z { k with nx := N, ct := N, bk := k.nx } Γ1 Ex)
    (start : I 0 Γ0) (fin : ∀ Γ', I ds.length Γ' → k.nx Γ') : forGo g z k ds Γ0 Ex := by
  have go : ∀ (es : List D) (i : Nat) (Γ : List S), (∀ j, es[j]? = ds[i + j]?) → i + es.length = ds.length → I i Γ → forGo g z k es Γ Ex := by
    intro es
    induction es with
    | nil => intro i Γ _ hl h; exact fin Γ (by rw [← hl]; exact h)
    | cons d es ih =>
      intro i Γ hj hl h
      unfold forGo
      refine turn i d (by have := hj 0; simpa using this.symm) Γ h _ fun Γ' h' => ih (i + 1) Γ' (fun j => ?_) (by rw [← hl, List.length_cons]; omega) h'
      have := hj (j + 1)
      rw [show i + 1 + j = i + (j + 1) by omega]
      simpa using this
  exact go ds 0 Γ0 (fun j => by rw [Nat.zero_add]) (by rw [Nat.zero_add]) start
end
end L3
namespace L3
open PySem PySem.Spec PyProof.Rows L2
/-! ### data whose text is short: texts of at most 80 signs, ints of at most 60 digits -/
def smS (x : Str) : Bool := decide (x.length ≤ 80) && x.cps.toList.all fun c => decide (c < 16 ^ 8)
def smK : Key → Bool
  | .inl i => decide (i.natAbs < 10 ^ 60)
  | .inr x => smS x
mutual
def D.sm : D → Bool
  | .non | .bl _ => true
  | .int i => decide (i.natAbs < 10 ^ 60)
  | .str x => smS x
  | .tup xs | .lst xs => sms xs
  | .dic kvs => smkv kvs
  | _ => false
def sms : List D → Bool
  | [] => true
  | x :: xs => x.sm && sms xs
def smkv : List (Key × D) → Bool
  | [] => true
  | (k, x) :: xs => smK k && x.sm && smkv xs
end
mutual
def D.wt : D → Nat
  | .tup xs | .lst xs | .tun xs => wts xs + 3
  | .dic kvs => wtkv kvs + 3
  | .str _ => 900
  | _ => 64
def wts : List D → Nat
  | [] => 0
  | x :: xs => x.wt + 2 + wts xs
def wtkv : List (Key × D) → Nat
  | [] => 0
  | (_, x) :: xs => x.wt + 904 + wtkv xs
end
theorem int_len {i : Int} (h : i.natAbs < 10 ^ 60) : (Str.ofString (toString i)).length ≤ 64 := by
  by_cases h0 : 0 ≤ i
  · exact Nat.le_trans (toString_length_le h0 (k := 60) (by decide) (by omega)) (by decide)
  · rw [PyProof.Rows.toString_neg (by omega)]
    have := toString_length_le (v := 0 - i) (by omega) (k := 60) (by decide) (by omega)
    rw [PySem.ofString_length] at this ⊢
    rw [String.length_append]
    have e : ("-" : String).length = 1 := rfl
    omega
theorem str_len {x : Str} (h : smS x = true) : (reprText x).length ≤ 900 := by
  obtain ⟨h1, h2⟩ := Bool.and_eq_true_iff.mp h
  have h1 : x.length ≤ 80 := of_decide_eq_true h1
  have := PySem.StrLaws.reprText_len x (by simpa only [List.all_eq_true, decide_eq_true_eq] using h2)
  omega
theorem key_len {k : Key} (h : smK k = true) : (keyPy k).shown.length ≤ 900 := by
  cases k with
  | inl i => rw [keyPy, PyData.shown]; exact Nat.le_trans (int_len (of_decide_eq_true h)) (by decide)
  | inr x => rw [keyPy, PyData.shown]; exact str_len h
mutual
theorem D.sm_len : ∀ d : D, d.sm = true → d.py.shown.length ≤ d.wt
  | .non, _ => by rw [D.py, PyData.shown]; decide
  | .bl b, _ => by rw [D.py, PyData.shown]; cases b <;> decide
  | .int i, h => by rw [D.py, PyData.shown]; exact int_len (by simpa [D.sm] using h)
  | .str x, h => by rw [D.py, PyData.shown]; exact str_len (by simpa [D.sm] using h)
  | .tup xs, h => by
    rw [D.py, PyData.shown]
    have := sms_len xs (by simpa [D.sm] using h)
    have h2 := tupleText_len_le (PyData.shownAll (pys xs))
    show _ ≤ wts xs + 3
    omega
  | .tun xs, h => by simp [D.sm] at h
  | .lst xs, h => by
    rw [D.py, PyData.shown]
    have := sms_len xs (by simpa [D.sm] using h)
    have h2 := listText_len_le (PyData.shownAll (pys xs))
    show _ ≤ wts xs + 3
    omega
  | .dic kvs, h => by
    rw [D.py, PyData.shown]
    have := smkv_len kvs (by simpa [D.sm] using h)
    have h2 := dictText_len_le (PyData.shownKv (pyKv kvs))
    show _ ≤ wtkv kvs + 3
    omega
  | .ref _, h => by simp [D.sm] at h
  | .ty _, h => by simp [D.sm] at h
  | .scr _, h => by simp [D.sm] at h
theorem sms_len : ∀ xs : List D, sms xs = true → ((PyData.shownAll (pys xs)).map (·.length)).sum + 2 * (PyData.shownAll (pys xs)).length ≤ wts xs
  | [], _ => by simp [pys, PyData.shownAll, wts]
  | x :: xs, h => by
    have h' : x.sm = true ∧ sms xs = true := by simpa [sms] using h
    have h1 := D.sm_len x h'.1
    have h2 := sms_len xs h'.2
    rw [pys, PyData.shownAll, wts, List.map_cons, List.sum_cons, List.length_cons]
    omega
theorem smkv_len : ∀ xs : List (Key × D), smkv xs = true → ((PyData.shownKv (pyKv xs)).map (·.length)).sum + 2 * (PyData.shownKv (pyKv xs)).length ≤ wtkv xs
  | [], _ => by simp [pyKv, PyData.shownKv, wtkv]
  | (k, x) :: xs, h => by
    have h' : (smK k = true ∧ x.sm = true) ∧ smkv xs = true := by simpa [smkv] using h
    have h0 := key_len h'.1.1
    have h1 := D.sm_len x h'.1.2
    have h2 := smkv_len xs h'.2
    have e2 : ((keyPy k).shown ++ ": " ++ x.py.shown).length = (keyPy k).shown.length + 2 + x.py.shown.length := by
      rw [strLen_append, strLen_append]; rfl
    rw [pyKv, PyData.shownKv, wtkv, List.map_cons, List.sum_cons, List.length_cons, e2]
    omega
end
mutual
theorem D.sm_pd : ∀ d : D, d.sm = true → d.pd = true
  | .non, _ => rfl
  | .bl _, _ => rfl
  | .int _, _ => rfl
  | .str _, _ => rfl
  | .tun xs, h => by simp [D.sm] at h
  | .tup xs, h => by rw [D.pd]; exact sms_pds xs (by simpa [D.sm] using h)
  | .lst xs, h => by rw [D.pd]; exact sms_pds xs (by simpa [D.sm] using h)
  | .dic xs, h => by rw [D.pd]; exact smkv_pdk xs (by simpa [D.sm] using h)
  | .ref _, h => by simp [D.sm] at h
  | .ty _, h => by simp [D.sm] at h
  | .scr _, h => by simp [D.sm] at h
theorem sms_pds : ∀ xs : List D, sms xs = true → pds xs = true
  | [], _ => rfl
  | x :: xs, h => by
    have h' : x.sm = true ∧ sms xs = true := by simpa [sms] using h
    rw [pds, D.sm_pd x h'.1, sms_pds xs h'.2]; rfl
theorem smkv_pdk : ∀ xs : List (Key × D), smkv xs = true → pdk xs = true
  | [], _ => rfl
  | (k, x) :: xs, h => by
    have h' : (smK k = true ∧ x.sm = true) ∧ smkv xs = true := by simpa [smkv] using h
    rw [pdk, D.sm_pd x h'.1.2, smkv_pdk xs h'.2]; rfl
end
theorem int_show {i : Int} (h : i.natAbs < 10 ^ 60) : i.natAbs.log2 < 1920 := by
  by_cases z : i.natAbs = 0
  · rw [z]; decide
  · exact Nat.lt_of_lt_of_le ((Nat.log2_lt z).mpr (show i.natAbs < 2 ^ 200 by omega)) (by decide)
mutual
theorem D.sm_show : ∀ d : D, d.sm = true → d.py.showable = true
  | .non, _ => by rw [D.py, PyData.showable]
  | .bl _, _ => by rw [D.py, PyData.showable]
  | .str _, _ => by rw [D.py, PyData.showable]
  | .int i, h => by
    rw [D.py, PyData.showable]
    exact decide_eq_true (int_show (by simpa [D.sm] using h))
  | .tun xs, h => by simp [D.sm] at h
  | .tup xs, h => by rw [D.py, PyData.showable]; exact sms_show xs (by simpa [D.sm] using h)
  | .lst xs, h => by rw [D.py, PyData.showable]; exact sms_show xs (by simpa [D.sm] using h)
  | .dic xs, h => by rw [D.py, PyData.showable]; exact smkv_show xs (by simpa [D.sm] using h)
  | .ref _, h => by simp [D.sm] at h
  | .ty _, h => by simp [D.sm] at h
  | .scr _, h => by simp [D.sm] at h
theorem sms_show : ∀ xs : List D, sms xs = true → PyData.showableAll (pys xs) = true
  | [], _ => by rw [pys, PyData.showableAll]
  | x :: xs, h => by
    have h' : x.sm = true ∧ sms xs = true := by simpa [sms] using h
    rw [pys, PyData.showableAll, D.sm_show x h'.1, sms_show xs h'.2]; rfl
theorem smkv_show : ∀ xs : List (Key × D), smkv xs = true → PyData.showableKv (pyKv xs) = true
  | [], _ => by rw [pyKv, PyData.showableKv]
  | (k, x) :: xs, h => by
    have h' : (smK k = true ∧ x.sm = true) ∧ smkv xs = true := by simpa [smkv] using h
    have hk : (keyPy k).showable = true := by
      cases k with
      | inl i => rw [keyPy, PyData.showable]; exact decide_eq_true (int_show (of_decide_eq_true h'.1.1))
      | inr x => rw [keyPy, PyData.showable]
    rw [pyKv, PyData.showableKv, hk, D.sm_show x h'.1.2, smkv_show xs h'.2]; rfl
end
/-- it may be shown -/
theorem okRepr_of {d : D} (h : d.sm = true) (hd : d.dep ≤ 60) (hw : d.wt ≤ 16000000) : okRepr d :=
  ⟨D.sm_pd d h, D.sm_show d h, hd, Nat.le_trans (D.sm_len d h) (Nat.le_trans hw (by decide))⟩
theorem wts_le {k : Nat} : ∀ {xs : List D}, (∀ x ∈ xs, x.wt ≤ k) → wts xs ≤ (k + 2) * xs.length
  | [], _ => Nat.zero_le _
  | x :: xs, h => by
    have h1 := h x List.mem_cons_self
    have h2 := wts_le fun y hy => h y (List.mem_cons_of_mem _ hy)
    rw [wts, List.length_cons, Nat.mul_add]
    omega
theorem sms_of : ∀ {xs : List D}, (∀ x ∈ xs, x.sm = true) → sms xs = true
  | [], _ => rfl
  | x :: xs, h => by rw [sms, h x List.mem_cons_self, sms_of fun y hy => h y (List.mem_cons_of_mem _ hy)]; rfl
theorem deps_le {k : Nat} : ∀ {xs : List D}, (∀ x ∈ xs, x.dep ≤ k) → deps xs ≤ k
  | [], _ => Nat.zero_le _
  | x :: xs, h => by
    rw [deps]
    exact Nat.max_le.mpr ⟨h x List.mem_cons_self, deps_le fun y hy => h y (List.mem_cons_of_mem _ hy)⟩
end L3
namespace L3
open PySem PySem.Spec PyProof.Rows L2
/-- a def whose contract is never asked: the bottom of a def that calls itself -/
theorem fnG_no {P : Program} {w : World} {K : PySem.W.Frag} {mg : Str → Option Value} {base : Heap} {k n : Nat} {f : Addr} {fd : FuncData} {ps : List Str} {fc : SE} (h : ∀ Γ κ Ex, ¬ fc Γ κ Ex) : FnG P w K mg base k f fd ps (spF K n fc) where
  len := fun vs H Q E ⟨_, F, Γ, R, Ex, Kc, o, xl, q, _⟩ => (h _ _ _ q).elim
  run := fun A outer s H args us vs Q E _ _ _ _ _ ⟨_, F, Γ, R, Ex, Kc, o, xl, q, _⟩ => (h _ _ _ q).elim
/-! ### names of the text and of the language as values; {} and a dict of one entry; t[::-1] -/
section
variable {X : Cx} {pa : List V} {pos p1 p2 p3 : Pos} {x : Str} {e : Expr} {ga : SA}
theorem ej_globI {i : Int} (hg : Gl X x) (hm : ∃ t, X.mg x = some (.int i t)) (hd : (x == ("__debug__" : Str)) = false := by decide) : EJ X pa (.Name x pos) (sC (.int i)) := by
  obtain ⟨t, hm⟩ := hm
  exact ej_c (pe_glob hg hm (v := .int i) ⟨t, rfl⟩ hd) fun _ => .int i
theorem ej_ty {T : String} (hg : Gl X x) (hm : X.mg x = none) (hv : bootBuiltins x = some (.type T)) (hn : x ≠ "__name__" := by decide) (hd : (x == ("__debug__" : Str)) = false := by decide) : EJ X pa (.Name x pos) (sC (.ty T)) :=
  ej_c (pe_bltn hg hm hv (v := .ty T) rfl hn hd) fun _ => .ty T
@[simp] def sDic (kvs : List (Key × D)) : SE := fun Γ κ _ => κ (.leaf (.dic kvs)) Γ
theorem ej_dic0 : EJ X pa (.Dict [] [] pos) (sDic []) := ⟨fun W tk => PE.imp pe_dnewK fun σ H Q ⟨F, Γ, R, Ex, Kc, o, xl, q, k⟩ p hp => by
  obtain ⟨o2, s2, sb⟩ := o.newF (x := .dK []) hp
  exact k _ _ q _ _ _ R [] o2 s2 (.leaf (.dic (Rd.of upd_same) .nil))⟩
/-- {'a': 1}: a text and an int, written -/
theorem ej_dic1 {k : Str} {i : Int} {j1 j2} : EJ X pa (.Dict [some (.Constant (.str k) j1 p1)] [.Constant (.int i) j2 p2] pos) (sDic [(.inr k, .int i)]) := ⟨fun W tk =>
  PE.imp (pe_disp (pps_cons pe_str pe_int pps_nil) (by rfl) (by rfl) (fun z => by cases z) (show 1 ≤ 15 by decide)) fun σ H Q ⟨F, Γ, R, Ex, Kc, o, xl, q, kk⟩ p hp => by
    refine ⟨upd_same, [(.inr k, .int i)], rfl, show 1 ≤ 15 by decide, ?_⟩
    rw [upd_upd]
    obtain ⟨o2, s2, sb⟩ := o.newF (x := .dK (mergeK [] [(.inr k, V.int i)])) hp
    refine kk _ _ q _ _ _ R [] o2 s2 (.leaf (.dic (Rd.of upd_same) ?_))
    exact .cons (.int i) .nil⟩
/-! t[::-1] -/
def tRevT (K : PySem.W.Frag) (te : TE) : TE := fun σ H Q => te σ H fun x H1 => ∃ a xs, x = .ref a ∧ SqT K H1 a xs ∧ ∀ p, H1 p = none → Q (.ref p) (upd H1 p (.tup xs.reverse))
theorem pe_revT {te : TE} {k : Nat} (he : PE X e te) : PE X (.Subscript e (.Slice none none (some (.UnaryOp .USub (.Constant (.int 1) k p1) p2)) p3) pos) (tRevT X.K te) := by
  refine ⟨fun pins s σ H Q I h => ?_⟩
  refine Subscript_ (thn (he.run pins s σ H _ I h) fun v s1 ⟨x, H1, I1, r1, q1⟩ => ?_)
  obtain ⟨a, xs, ex, hx, q⟩ := q1
  subst ex
  cases r1
  have step : PO X (some (.UnaryOp .USub (.Constant (.int 1) k p1) p2)) (tPart (tUn (rU fun i => .int (-i)) (tC (.int 1)))) := po_some (pe_un un_neg pe_int)
  refine wpAny_Slice (thn (po_none.run pins s1 σ H1 (fun o H2 => o = none ∧ H2 = H1) I1 ⟨rfl, rfl⟩) fun vl s2 ⟨l, H2, I2, pl, el, e2⟩ => ?_)
  subst el e2
  refine thn (po_none.run pins s2 σ H2 (fun o H3 => o = none ∧ H3 = H2) I2 ⟨rfl, rfl⟩) fun vu s3 ⟨u, H3, I3, pu, eu, e3⟩ => ?_
  subst eu e3
  refine thn (step.run pins s3 σ H3 (fun o H4 => o = some (-1) ∧ H4 = H3) I3 ⟨1, rfl, -1, rfl, rfl, rfl⟩) fun vs s4 ⟨o, H4, I4, ps, eo, e4⟩ => ?_
  subst eo e4
  have I5 : Inv X pins σ H4 { s4 with heap := s4.heap.push { cls := .type "slice", data := .fields #[vl, vu, vs] } } := I4.kept (t' := s4.toks) fun b ob q => Heap.get?_push_of_some _ q
  obtain ⟨its, r, ht, hz⟩ := I5.tuple hx
  have hlen := r.length
  show wpAny (model X.prog X.w) X.A (subscriptTail e (.Slice none none (some (.UnaryOp .USub (.Constant (.int 1) k p1) p2)) p3) (.ref a) (.ref s4.heap.objs.size)) (EP X pins σ Q) X.xe { s4 with heap := s4.heap.push { cls := .type "slice", data := .fields #[vl, vu, vs] } }
  refine tail_any (ops := [.ref a, .ref s4.heap.objs.size]) (show Heap.IsTuple _ a its.toArray from ht).typeIs (PyProof.Rows.slot_tuple_getitem.lookup) ?_ (by with_unfolding_all rfl)
  refine getItem_tuple_rev ht (Heap.IsSliceOf.new _ vl vu vs) pl pu ps ?_ (by rw [List.size_toArray, ← hlen]; exact hz)
  refine ⟨.ref _, _, I5.laid (t' := s4.toks) (o := .tup xs.reverse) (fun b ob q => Heap.get?_push_of_some _ q) (Nat.le_refl _) ?_, rfl, q _ (I5.hok.fresh (Nat.le_refl _))⟩
  exact ⟨by rw [List.length_reverse]; exact hz, _, r.reverse, IsTup.new _ _⟩
@[simp] def sRevT (ga : SA) : SE := fun Γ κ Ex => ga Γ (fun a Γ1 => rdK Γ1 a fun d => match d with | .tup xs => κ (.leaf (.tup xs.reverse)) Γ1 | _ => False) Ex
theorem ej_revT {k : Nat} (ha : AJ X pa e ga) : EJ X pa (.Subscript e (.Slice none none (some (.UnaryOp .USub (.Constant (.int 1) k p1) p2)) p3) pos) (sRevT ga) := ⟨fun W tk =>
  PE.imp (pe_revT (ha.run W tk)) fun σ H Q ⟨F, Γ, R, Ex, Kc, o, xl, q, kk⟩ => ⟨F, Γ, R, Ex, _, o, xl, q, fun ar Γ1 h1 v F1 H1 R1 o1 s1 a1 => by
    obtain ⟨d, b, h2⟩ := rdK_ok o1 a1 h1
    split at h2
    · obtain ⟨a, vs, e, q1, r1⟩ := b.sqT
      refine ⟨a, vs, e, o1.sub.sqT q1, fun p hp => ?_⟩
      obtain ⟨t, F', R', r', o', s', x', p⟩ := fin_tup (P := fun t => Kc t Γ1) o1 hp r1.reverse h2
      exact kk _ _ p _ F' _ R' r' o' (s1.trans s') x'
    · exact h2.elim⟩⟩
/-! str(x) of an int, a bool, a text -/
def rStrA : List V → Hp → VK → Prop := fun xs H Q => (∃ i, xs = [.int i] ∧ i.natAbs.log2 < 1920 ∧ Q (.str (toString i)) H) ∨ (∃ b, xs = [.bl b] ∧ Q (.str (if b then "True" else "False")) H) ∨ ∃ a, xs = [.str a] ∧ Q (.str a) H
theorem call_strA : CallR X (.type "str") rStrA := by
  intro pins s σ H xs us Q I r h
  rcases h with h | ⟨b, rfl, q⟩ | h
  · exact call_str_int pins s σ H xs us Q I r h
  · obtain ⟨u, rfl, r1⟩ := vals1 r
    cases r1
    refine PySem.P.str_of_bool ⟨.str _, H, I.tok _, ⟨_, rfl⟩, ?_⟩
    cases b <;> exact q
  · exact SkE.call_str_str pins s σ H xs us Q I r h
def kStrA : KN := fun ds P => match ds with
  | [.int i] => i.natAbs.log2 < 1920 ∧ P (.leaf (.str (toString i)))
  | [.bl b] => P (.leaf (.str (if b then "True" else "False")))
  | [.str a] => P (.leaf (.str a))
  | _ => False
theorem k_strA : OpN X pa rStrA kStrA := by
  intro F H σ Γ R xs ds P Q o bs h fin
  unfold kStrA at h
  split at h
  · cases bs with
    | cons b1 bs =>
      cases bs
      exact .inl ⟨_, by rw [b1.int], h.1, fin _ _ (fin_leaf o (.str _) h.2)⟩
  · cases bs with
    | cons b1 bs =>
      cases bs
      exact .inr (.inl ⟨_, by rw [b1.bl], fin _ _ (fin_leaf o (.str _) h)⟩)
  · cases bs with
    | cons b1 bs =>
      cases bs
      exact .inr (.inr ⟨_, by rw [b1.str], fin _ _ (fin_leaf o (.str _) h)⟩)
  · exact h.elim
@[simp] theorem kIsi_d {d : D} {n : String} {P : O → Prop} : kIsi [d, .ty n] P = (tyOk n = true ∧ (∃ t, d.tn = some t) ∧ P (.leaf (.bl (isT d n)))) := rfl
@[simp] theorem kStrA_i {i : Int} {P : O → Prop} : kStrA [.int i] P = (i.natAbs.log2 < 1920 ∧ P (.leaf (.str (toString i)))) := rfl
@[simp] theorem kStrA_b {b : Bool} {P : O → Prop} : kStrA [.bl b] P = P (.leaf (.str (if b then "True" else "False"))) := rfl
@[simp] theorem kStrA_s {a : Str} {P : O → Prop} : kStrA [.str a] P = P (.leaf (.str a)) := rfl
@[simp] theorem kInt1_i {i : Int} {P : O → Prop} : kInt1 [.int i] P = P (.leaf (.int i)) := rfl
@[simp] theorem kInt1_b {b : Bool} {P : O → Prop} : kInt1 [.bl b] P = P (.leaf (.int (if b then 1 else 0))) := rfl
@[simp] theorem kSl_t {xs : List D} {l u : Option Int} {P : O → Prop} : kSl (.tup xs) l u P = P (.leaf (.tup (cut xs l u))) := rfl
@[simp] theorem kSl_l {xs : List D} {l u : Option Int} {P : O → Prop} : kSl (.lst xs) l u P = P (.ls (cut xs l u)) := rfl
@[simp] theorem kSl_s {ns : List Int} {l u : Option Int} {P : O → Prop} : kSl (.scr ns) l u P = P (.ls ((cut ns l u).map .int)) := rfl
/-! -n -/
def kNeg : K1 := fun a P => match a with
  | .int i => P (.leaf (.int (-i)))
  | _ => False
theorem k_neg : Op1 X pa (rU fun i => .int (-i)) kNeg := by
  intro F H σ Γ R x a P Q o b h fin
  unfold kNeg at h
  split at h
  · exact ⟨_, b.int, fin _ _ (fin_leaf o (.int _) h)⟩
  · exact h.elim
@[simp] theorem kNeg_i {i : Int} {P : O → Prop} : kNeg (.int i) P = P (.leaf (.int (-i))) := rfl
/-! t != (), t == (): nothing within is compared -/
def rNeE (K : PySem.W.Frag) : R2 := fun x y H Q => ∃ a b xs, x = .ref a ∧ y = .ref b ∧ SqT K H a xs ∧ SqT K H b [] ∧ Q (.bl (!xs.isEmpty)) H
def rEqE (K : PySem.W.Frag) : R2 := fun x y H Q => ∃ a b xs, x = .ref a ∧ y = .ref b ∧ SqT K H a xs ∧ SqT K H b [] ∧ Q (.bl xs.isEmpty) H
theorem op_neE (hu : X.A.units + 64 < cLine) : OpR X (compareOp .NotEq) (rNeE X.K) := by
  rintro pins s σ H x y v u Q I rx ry ⟨a, b, xs, rfl, rfl, hx, hy, q⟩
  cases rx
  cases ry
  obtain ⟨i1, r1, p1, _⟩ := I.tuple hx
  obtain ⟨i2, r2, p2, _⟩ := I.tuple hy
  have n2 : i2 = [] := by cases r2; rfl
  subst n2
  have e : (!((List.range (min i1.toArray.size ([] : List Value).toArray.size)).all (fun _ => true) && i1.toArray.size == ([] : List Value).toArray.size)) = !xs.isEmpty := by
    cases r1 <;> simp
  refine SeqAt.RcNeAt.tuples (e := fun _ => true) (show s.heap.IsTuple a i1.toArray from p1) (show s.heap.IsTuple b ([] : List Value).toArray from p2) (by omega) (fun j _ h2 => absurd h2 (by simp)) X.prog X.w X.xe _ ?_
  rw [e]
  exact ⟨.bl _, H, I, rfl, q⟩
theorem op_eqE (hu : X.A.units + 64 < cLine) : OpR X (compareOp .Eq) (rEqE X.K) := by
  rintro pins s σ H x y v u Q I rx ry ⟨a, b, xs, rfl, rfl, hx, hy, q⟩
  cases rx
  cases ry
  obtain ⟨i1, r1, p1, _⟩ := I.tuple hx
  obtain ⟨i2, r2, p2, _⟩ := I.tuple hy
  have n2 : i2 = [] := by cases r2; rfl
  subst n2
  have e : ((List.range (min i1.toArray.size ([] : List Value).toArray.size)).all (fun _ => true) && i1.toArray.size == ([] : List Value).toArray.size) = xs.isEmpty := by
    cases r1 <;> simp
  refine SeqAt.RcAt.tuples (e := fun _ => true) (show s.heap.IsTuple a i1.toArray from p1) (show s.heap.IsTuple b ([] : List Value).toArray from p2) (by omega) (fun j _ h2 => absurd h2 (by simp)) X.prog X.w X.xe _ ?_
  rw [e]
  exact ⟨.bl _, H, I, rfl, q⟩
def kNeE : K2 := fun a b P => match a, b with
  | .tup xs, .tup [] => P (.leaf (.bl (!xs.isEmpty)))
  | _, _ => False
def kEqE : K2 := fun a b P => match a, b with
  | .tup xs, .tup [] => P (.leaf (.bl xs.isEmpty))
  | _, _ => False
theorem k_neE : Op2 X pa (rNeE X.K) kNeE := by
  intro F H σ Γ R x y a b P Q o ba bb h fin
  unfold kNeE at h
  split at h
  · obtain ⟨a1, v1, e1, q1, r1⟩ := ba.sqT
    obtain ⟨a2, v2, e2, q2, r2⟩ := bb.sqT
    cases r2
    exact ⟨a1, a2, v1, e1, e2, o.sub.sqT q1, o.sub.sqT q2, by rw [r1.empty]; exact fin _ _ (fin_leaf o (.bl _) h)⟩
  · exact h.elim
theorem k_eqE : Op2 X pa (rEqE X.K) kEqE := by
  intro F H σ Γ R x y a b P Q o ba bb h fin
  unfold kEqE at h
  split at h
  · obtain ⟨a1, v1, e1, q1, r1⟩ := ba.sqT
    obtain ⟨a2, v2, e2, q2, r2⟩ := bb.sqT
    cases r2
    exact ⟨a1, a2, v1, e1, e2, o.sub.sqT q1, o.sub.sqT q2, by rw [r1.empty]; exact fin _ _ (fin_leaf o (.bl _) h)⟩
  · exact h.elim
@[simp] theorem kNeE_t {xs : List D} {P : O → Prop} : kNeE (.tup xs) (.tup []) P = P (.leaf (.bl (!xs.isEmpty))) := rfl
@[simp] theorem kEqE_t {xs : List D} {P : O → Prop} : kEqE (.tup xs) (.tup []) P = P (.leaf (.bl xs.isEmpty)) := rfl
/-! name += e, over data that is a value -/
end
end L3
namespace L3
open PySem PySem.Spec PyProof.Rows L2
section
variable {X : Cx} {pa : List V} {pos px py pt pt2 p1 p2 p3 p4 p6 : Pos} {x : Str} {e a b c : Expr} {es : List Expr} {ga gb gi : SA} {gs : SAs} {f : SE} {st : Stmt} {K : PySem.W.Frag} {F H : Hp} {σ : Sg} {Γ : List S} {R : Nat → List Addr}
/-! ### what is never reached -/
@[simp] def zNo : SS := fun _ _ _ => False
theorem sj_no : SJ X pa st zNo := ⟨fun W tk => ⟨fun pins s σ H D I ⟨F, Γ, R, Ex, k, o, xl, q, _⟩ => q.elim⟩⟩
@[simp] def sNo : SE := fun _ _ _ => False
theorem ej_no : EJ X pa e sNo := ⟨fun W tk => ⟨fun pins s σ H Q I ⟨F, Γ, R, Ex, Kc, o, xl, q, k⟩ => q.elim⟩⟩
/-! ### a module's tuple -/
theorem ej_globT {ds : List D} (hg : Gl X x) (hm : ∃ a, X.mg x = some (.ref a) ∧ ∀ F, Rp X.K F (.ref a) (.tup ds)) (hd : (x == ("__debug__" : Str)) = false := by decide) : EJ X pa (.Name x pos) (sC (.tup ds)) := by
  obtain ⟨a, hm, hq⟩ := hm
  exact ej_c (pe_glob hg hm (v := .ref a) rfl hd) hq
/-! ### truth -/
@[simp] theorem trK_s {z : Str} {κ : Bool → Prop} : trK (.str z) κ = (z.length ≤ sizeLine ∧ κ ((z.length : Int) != 0)) := rfl
@[simp] theorem trK_t {xs : List D} {κ : Bool → Prop} : trK (.tup xs) κ = κ (!xs.isEmpty) := rfl
@[simp] theorem trK_l {xs : List D} {κ : Bool → Prop} : trK (.lst xs) κ = κ (!xs.isEmpty) := rfl
@[simp] theorem kMul_l {xs : List D} {j : Int} {P : O → Prop} : kMul (.lst xs) (.int j) P = ((-(2 ^ 63) ≤ j ∧ j < 2 ^ 63 ∧ xs.length * j.toNat ≤ sizeLine) ∧ P (.ls (reps j.toNat xs))) := rfl
/-! ### x += e, ints -/
@[simp] def zAug (i : Nat) (g : Int → Int → Int) (ga : SA) : SS := fun k Γ Ex => ∃ m, Γ[i]? = some (.v (.int m)) ∧ ga Γ (fun a Γ1 => rdK Γ1 a fun d => ∃ n, d = .int n ∧ k.nx (Γ1.set i (.v (.int (g m n))))) Ex
theorem Stp.setV {F H F' H' : Hp} {R R' : Nat → List Addr} {i : Nat} (s : Stp F H R F' H' R' []) : Stp F H R F' H' (fun j => if j = i then [] else R' j) [] := s.le fun j a h => by
  try dsimp only at h
  by_cases hj : j = i
  · rw [if_pos hj] at h; cases h
  · rw [if_neg hj] at h; exact h
theorem sj_aug {i : Nat} {op : Operator} {g : Int → Int → Int} {pos' : Pos} (hN : X.N.Nodup) (hi : X.N[i]? = some x) (hx : Loc X.env.scope x) (ho : PIp X op (ipI g)) (ha : AJ X pa e ga)
    (hf : X.fn x = true ∨ X.env.scope.names.lookup x = some .local := by first | exact .inl rfl | exact .inr rfl | assumption) : SJ X pa (.AugAssign (.Name x pos') op e pos) (zAug i g ga) := ⟨fun W tk =>
  PS.imp (ps_aug hN hi hx (ha.run W tk) ho hf) fun D σ H ⟨F, Γ, R, Ex, k, o, xl, ⟨m, em, q⟩, n, _⟩ => by
    obtain ⟨_, v, ev, p⟩ := o.sl i _ em
    have e : v = .int m := by cases p; rfl
    subst e
    refine ⟨_, ev, F, Γ, R, Ex, _, o, xl σ, q, fun a Γ1 h1 v1 F1 H1 R1 o1 s1 a1 => ?_⟩
    obtain ⟨d, bp, nn, rfl, h2⟩ := rdK_ok o1 a1 h1
    refine ⟨m, nn, rfl, bp.int, ?_⟩
    exact n _ h2 _ _ H1 _ (o1.setV (.int _)) s1.setV⟩
/-! ### xs[e] = v -/
@[simp] def zSetAt (i : Nat) (f : SE) (gi : SA) : SS := fun k Γ Ex => f Γ (fun t Γ1 => (∃ j ds, Γ1[i]? = some (.o j (.ls ds))) ∧ gi Γ1 (fun a Γ2 => rdK Γ2 a fun d => ∃ j ds n, d = .int n ∧ Γ2[i]? = some (.o j (.ls ds)) ∧ 0 ≤ n ∧ n < ds.length ∧ k.nx (Γ2.set i (.o j (.ls (ds.set n.toNat t.fz))))) Ex) Ex
theorem ixN_in {l : Nat} {n : Int} (h0 : 0 ≤ n) (h1 : n < l) : ixN l n = some n.toNat := by
  obtain ⟨k, rfl⟩ : ∃ k : Nat, n = k := ⟨n.toNat, by omega⟩
  exact set_ne (l := List.replicate l ()) (v := ()) (by simpa using h1) |> fun h => by simpa using h
theorem sj_setAt {i : Nat} (hp : PE X (.Name x p1) (tVar i)) (hi : AJ X pa a gi) (hf : EJ X pa e f) (hs : swapsWithSole [.Subscript (.Name x p1) a p3] e pos.line X.env = pure false := by rfl) (hw : swappedStores [.Subscript (.Name x p1) a p3] e X.env = pure none := by rfl)
    (ha : ∀ v, assign (.Subscript (.Name x p1) a p3) X.env v = (do
      let ov ← holding [v] (eval (.Name x p1) X.env)
      let iv ← holding [v, ov] (eval a X.env)
      standAt p3
      holding [v, ov, iv] (setItem ov iv v)
      release [v, ov, iv] []) := by intro _; rfl) :
    SJ X pa (.Assign [.Subscript (.Name x p1) a p3] e pos) (zSetAt i f gi) := ⟨fun W tk => PS.imp (ps_asg (hf.run W tk) (pg_sub hp (hi.run W tk) set_list ha) hs hw) fun D σ H ⟨F, Γ, R, Ex, k, o, xl, q, n, _⟩ =>
  ⟨F, Γ, R, Ex, _, o, xl σ, q, fun t Γ1 ⟨⟨j0, ds0, e0⟩, h1⟩ v F' H' R' r o' s' x' => by
    have o2 := x'.freezeOk o'
    have r2 := x'.freezeRp
    have s2 := x'.freezeStp s'
    obtain ⟨l, vs, ev, hl, rp, hR⟩ := o2.ls e0
    refine ⟨_, ev, _, Γ1, R', Ex, _, o2, (xl σ).step s2, h1, fun ar Γ2 h2 v2 F2 H2 R2 o3 s3 a3 => ?_⟩
    obtain ⟨d, bp, j, ds, nn, rfl, e2, n0, n1, h3⟩ := rdK_ok o3 a3 h2
    obtain ⟨l', vs', ev', hl', rp', hR'⟩ := o3.ls e2
    rw [ev] at ev'
    cases ev'
    refine ⟨l, vs', nn, _, rfl, bp.int, hl', ixN_in n0 (by rw [rp'.length]; exact n1), ?_⟩
    obtain ⟨o4, s4⟩ := o3.updI (x := .lst (vs'.set nn.toNat v)) (p := l) (t' := .ls (ds.set nn.toNat t.fz)) e2 ev (by rw [hR']; simp) (by
      rw [hR']
      exact .ls upd_same (rp'.set _ (Rp.mono s3.sub _ _ r2)))
    exact n _ h3 _ _ _ _ o4 ((s2.trans s3).trans s4)⟩⟩
end
end L3
namespace L3
open PySem PySem.Spec PyProof.Rows L2
/-! ### what follows a statement, apart -/
theorem seq_cut {f g : SS} {k : Kn} {Γ : List S} {Ex : Xk} (M : List S → Prop) (tail : ∀ Γ', M Γ' → g k Γ' Ex) (main : ∀ Z : List S → Prop, (∀ Γ', M Γ' → Z Γ') → f { k with nx := Z } Γ Ex) : zSeq f g k Γ Ex := main _ tail
/-! ### calls -/
/-- operands that hand values -/
def ArgIs (Γ : List S) : List Arg → List D → Prop
  | [], [] => True
  | .val e :: as, d :: ds => e = d ∧ ArgIs Γ as ds
  | .slot j :: as, d :: ds => Γ[j]? = some (.v d) ∧ ArgIs Γ as ds
  | _, _ => False
theorem ArgIs.len {Γ : List S} : ∀ {as : List Arg} {ds : List D}, ArgIs Γ as ds → as.length = ds.length
  | [], [], _ => rfl
  | .val e :: as, d :: ds, h => by rw [List.length_cons, List.length_cons, ArgIs.len h.2]
  | .slot j :: as, d :: ds, h => by rw [List.length_cons, List.length_cons, ArgIs.len h.2]
theorem argL_vals {Γ : List S} {as0 : List Arg} : ∀ {as : List Arg} {ds : List D} {j : Nat} {κ : List S → Prop}, ArgIs Γ as ds → κ (ds.map S.v) → argL Γ as0 j as κ
  | [], [], _, _, _, h => h
  | .val e :: as, d :: ds, j, κ, q, h => by
    obtain ⟨rfl, q⟩ := q
    unfold argL
    exact argL_vals q h
  | .slot i :: as, d :: ds, j, κ, q, h => by
    obtain ⟨e, q⟩ := q
    unfold argL
    rw [e]
    exact argL_vals q h
theorem jOf_vals {Γ : List S} {k : Nat} (hk : ∀ d, Γ[k]? ≠ some (.v d)) : ∀ {as : List Arg} {ds : List D}, ArgIs Γ as ds → jOf as k = none
  | [], [], _ => rfl
  | .val e :: as, d :: ds, q => by rw [jOf_val, jOf_vals hk q.2]; rfl
  | .slot i :: as, d :: ds, q => by
    rw [jOf_slot, if_neg (fun z : i = k => hk d (by rw [← z]; exact q.1)), jOf_vals hk q.2]
    rfl
theorem wb_valsOf {Γ Γo : List S} {as : List Arg} {ds : List D} (q : ArgIs Γ as ds) : wb as Γo Γ = Γ := by
  apply List.ext_getElem?
  intro k
  rw [wb_get]
  cases hk : Γ[k]? with
  | none => rfl
  | some s =>
    show some (wbS as Γo k s) = some s
    cases s with
    | v d => rfl
    | un => rfl
    | o j t => rw [wbS_none (jOf_vals (fun d z => by rw [hk] at z; cases z) q)]
theorem shp_vals : ∀ {ds : List D}, shp (ds.map S.v) (ds.map S.v)
  | [] => trivial
  | d :: ds => shp_vals (ds := ds)
/-- a call that is handed values alone -/
theorem callV {c : SE} {gs : SAs} {Γ : List S} {κ : O → List S → Prop} {Ex : Xk} {n : Nat} {as : List Arg} {ds : List D} (hgs : ∀ κ : List Arg → List S → Prop, κ as Γ → gs Γ κ Ex) (ha : ArgIs Γ as ds) (hn : ds.length = n)
    (h : ∀ (K : O → List S → Prop) (E : Xk), (∀ r, κ r Γ → K r (ds.map S.v)) → (∀ x, Ex x Γ → E x (ds.map S.v)) → c (ds.map S.v) K E) : sCallN n c gs Γ κ Ex := by
  unfold sCallN sCall
  refine hgs _ ⟨by rw [ha.len]; exact hn, argL_vals ha (h _ _ (fun r q => ⟨shp_vals, ?_⟩) fun x q => ⟨shp_vals, ?_⟩)⟩
  · rw [wb_valsOf ha]; exact q
  · rw [wb_valsOf ha]; exact q
/-- a call that is handed one thing first, and values -/
theorem callD {c : SE} {gs : SAs} {Γ : List S} {κ : O → List S → Prop} {Ex : Xk} {n i : Nat} {q : Option Nat} {t : O} {as : List Arg} {ds : List D} (hi : Γ[i]? = some (.o q t)) (hgs : ∀ κ : List Arg → List S → Prop, κ (.slot i :: as) Γ → gs Γ κ Ex) (ha : ArgIs Γ as ds) (hn : ds.length + 1 = n)
    (h : ∀ (K : O → List S → Prop) (E : Xk), (∀ r t', κ r (Γ.set i (.o q t')) → K r (.o (some 0) t' :: ds.map S.v)) → (∀ x t', Ex x (Γ.set i (.o q t')) → E x (.o (some 0) t' :: ds.map S.v)) → c (.o (some 0) t :: ds.map S.v) K E) : sCallN n c gs Γ κ Ex := by
  unfold sCallN sCall
  have j0 : jOf (.slot i :: as) i = some 0 := by rw [jOf_slot, if_pos rfl]
  have jn : ∀ k, k ≠ i → jOf (.slot i :: as) k = none ∨ ∃ d, Γ[k]? = some (.v d) := fun k hk => by
    by_cases e : ∃ d, Γ[k]? = some (.v d)
    · exact .inr e
    · exact .inl (by rw [jOf_slot, if_neg (Ne.symm hk), jOf_vals (fun d z => e ⟨d, z⟩) ha]; rfl)
  have w : ∀ t', wb (.slot i :: as) (.o (some 0) t' :: ds.map S.v) Γ = Γ.set i (.o q t') := fun t' => by
    apply List.ext_getElem?
    intro k
    rw [wb_get]
    by_cases e : k = i
    · subst e
      have hl : k < Γ.length := (List.getElem?_eq_some_iff.mp hi).1
      rw [hi, List.getElem?_set_self hl]
      show some (wbS _ _ k (.o q t)) = _
      unfold wbS
      rw [j0]
      rfl
    · rw [List.getElem?_set_ne (Ne.symm e)]
      cases hk : Γ[k]? with
      | none => rfl
      | some s =>
        show some (wbS _ _ k s) = some s
        cases s with
        | v d => rfl
        | un => rfl
        | o j t =>
          rcases jn k e with z | ⟨d, z⟩
          · rw [wbS_none z]
          · rw [hk] at z; cases z
  refine hgs _ ⟨by rw [List.length_cons, ha.len]; exact hn, ?_⟩
  show argL Γ (.slot i :: as) 0 (.slot i :: as) _
  unfold argL
  rw [hi]
  refine ⟨j0, argL_vals ha (h _ _ (fun r t' q => ⟨shp_vals, ?_⟩) fun x t' q => ⟨shp_vals, ?_⟩)⟩
  · rw [w]; exact q
  · rw [w]; exact q
end L3
namespace PySem.SeqAt
open AutoSeq1 (wpAny_loadPart')
open MeetsSeq
theorem str_eq_declines_dict (b : Str) (u : Tok) (l : Addr) (es : Array DictEntry) (n : Nat) :
    Meets (Builtin.«str.__eq__» ⟨[.str b u, .ref l], []⟩) (fun _ R s => s.heap.get? l = some { cls := .type "dict", dict := none, data := .dict es n, slots := #[] } ∧ R (.ok (.ret .notImplemented)) s) :=
  .of_wp fun prog w A R s h => by obtain ⟨hp, g, d, tk, os⟩ := s; obtain ⟨hl, h⟩ := h; wp_walk using wpAny_loadPart' hl, wpAny_load hl; exact ⟨_, rfl, h⟩
theorem dict_eq_declines_str (l : Addr) (es : Array DictEntry) (n : Nat) (b : Str) (u : Tok) :
    Meets (Builtin.«dict.__eq__» ⟨[.ref l, .str b u], []⟩) (fun _ R s => s.heap.get? l = some { cls := .type "dict", dict := none, data := .dict es n, slots := #[] } ∧ R (.ok (.ret .notImplemented)) s) :=
  .of_wp fun prog w A R s h => by obtain ⟨hp, g, d, tk, os⟩ := s; obtain ⟨hl, h⟩ := h; have f1 := F.sub_str_dict; wp_walk using wpAny_loadPart' hl, wpAny_load hl; exact ⟨_, rfl, h⟩
section
variable {A : Around} {s : Shared}
theorem EqAt.str_dict {l : Addr} {es : Array DictEntry} {n : Nat} (b : Str) (u : Tok) (ho : s.heap.get? l = some { cls := .type "dict", dict := none, data := .dict es n, slots := #[] }) (hu : A.units < cLine) : EqAt A s (.str b u) (.ref l) false := fun prog w E Q h => by
  unfold eqBool
  refine wpAny_holding ?_
  refine wpAny_ite_split (fun hab => absurd (eq_of_beq hab) nofun) (fun _ => ?_)
  refine wpAny_bind (rc_eq_decline_or (k := false) (typeIs_str s b u) ⟨_, ho, rfl⟩ (by decide) F.sub_dict_str F.slot_str_eq F.slot_dict_eq_refl
    (fun _ hq => call_meets F.slot_str_eq (typeIs_str s b u) F.entry_str_eq (F.args_str_eq_2 _ _) (str_eq_declines_dict b u l es n) ⟨ho, hq⟩)
    (fun _ hq => call_meets F.slot_dict_eq_refl ⟨_, ho, rfl⟩ F.entry_dict_eq (F.args_dict_eq_2 _ _) (dict_eq_declines_str l es n b u) ⟨ho, hq⟩)
    (fun _ hq => wpAny_of_eq (rfl : isSame (.str b u) (.ref l) = pure false) hq) (.inr hu) (wpAny_truthy_bool h))
end
end PySem.SeqAt
namespace L3
open PySem PySem.Spec PyProof.Rows L2
section
variable {X : Cx} {pa : List V} {pins : List (Addr × Obj)} {σ : Sg} {F H : Hp} {s : Shared}
def strIs (a : D) (z : Str) : Bool := match a with
  | .str x => z == x
  | _ => false
theorem strs_eq (I : Inv X pins σ H s) (sb : Sub F H) {v : V} {u : Value} {d : D} (b : Bp X.K F H v d) (r : RelV v u) (ht : ∃ t, d.tn = some t) (A : Around) (hu : A.units < cLine) (z : Str) (tz : Tok) : SeqAt.EqAt A s (.str z tz) u (strIs d z) := by
  cases d with
  | non => rw [b.non] at r; cases r; exact SeqAt.EqAt.str_none z tz
  | bl x => rw [b.bl] at r; cases r; exact SeqAt.EqAt.str_bool z tz x
  | int i => rw [b.int] at r; obtain ⟨t, rfl⟩ := r; exact SeqAt.EqAt.str_int z tz i t
  | str x => rw [b.str] at r; obtain ⟨t, rfl⟩ := r; exact SeqAt.EqAt.str_str z tz x t
  | tup xs =>
    obtain ⟨a, vs, rfl, q, _⟩ := b.sqT
    cases r
    obtain ⟨its, rv, ⟨o, ho, hc, m, hd⟩, _⟩ := I.tuple (sb.sqT q)
    exact SeqAt.EqAt.str_tuple z tz ⟨o, ho, hc, m, hd⟩ hu
  | tun xs =>
    obtain ⟨a, ob, vs, rfl, q, _, _⟩ := b.sqN
    cases r
    obtain ⟨its, rv, ⟨o, ho, hc, m, hd⟩, _⟩ := I.tuple (sb.sqT (.inl (.inr ⟨_, q⟩)))
    exact SeqAt.EqAt.str_tuple z tz ⟨o, ho, hc, m, hd⟩ hu
  | lst xs =>
    obtain ⟨a, vs, rfl, q, _⟩ := b.sqL sb
    cases r
    obtain ⟨its, rv, pl, _⟩ := I.list q
    exact SeqAt.EqAt.str_list z tz pl.isList hu
  | dic xs =>
    obtain ⟨a, vs, rfl, q, _⟩ := b.dic
    cases r
    obtain ⟨_, ne, vs, kv, hd⟩ := (sb.rd q).ok I.hok
    obtain ⟨⟨cls, dd, data, sl⟩, es, ep, ho, ⟨h1, h2, h3⟩, hd, _⟩ := hd
    simp only at h1 h2 h3 hd
    subst h1 h2 h3 hd
    exact SeqAt.EqAt.str_dict z tz ho hu
  | _ => obtain ⟨t, h⟩ := ht; cases h
def eV (d : D) : Value → Bool
  | .str z _ => strIs d z
  | _ => false
theorem eV_any (d : D) : ∀ {ss : List Str} {us : List Value}, Vals (ss.map V.str) us → us.any (eV d) = ss.any (strIs d)
  | [], _, r => by cases r; rfl
  | z :: ss, _, r => by
    cases r with
    | cons h t =>
      obtain ⟨tk, rfl⟩ := h
      rw [List.any_cons, List.any_cons, eV_any d t]
      rfl
theorem eV_mem (d : D) : ∀ {ss : List Str} {us : List Value}, Vals (ss.map V.str) us → ∀ y ∈ us, ∃ z t, y = .str z t
  | [], _, r, y, hy => by cases r; cases hy
  | z :: ss, _, r, y, hy => by
    cases r with
    | cons h t =>
      rcases List.mem_cons.mp hy with rfl | hy
      · obtain ⟨tk, rfl⟩ := h; exact ⟨_, _, rfl⟩
      · exact eV_mem d t y hy
/-- x in a tuple or list of strL, whatever x is -/
def rInS (X : Cx) (neg : Bool) : R2 := fun x y H Q => ∃ (F : Hp) (d : D) (ss : List Str) (p : Addr), Sub F H ∧ Bp X.K F H x d ∧ (∃ t, d.tn = some t) ∧ y = .ref p ∧ (SqT X.K H p (ss.map V.str) ∨ SqL X.K H p (ss.map V.str)) ∧ Q (.bl (if neg then !ss.any (strIs d) else ss.any (strIs d))) H
theorem op_inS (hu : X.A.units + 64 < cLine) : OpR X (compareOp .In) (rInS X false) := by
  rintro pins s σ H x y v u Q I rx ry ⟨F, d, ss, p, sb, b, ht, rfl, hq, q⟩
  cases ry
  rcases hq with hq | hq
  · obtain ⟨its, rv, ⟨o, ho, hc, m, hd⟩, _⟩ := I.tuple hq
    refine SeqAt.in_tupleAt (eV d) (show s.heap.IsTuple p its.toArray from ⟨o, ho, hc, m, hd⟩) (fun w hw => ?_) ⟨.bl _, H, I, by rw [← Array.any_toList, List.toList_toArray, eV_any d rv]; rfl, q⟩
    obtain ⟨z, t, rfl⟩ := eV_mem d rv w (by simpa using hw)
    exact strs_eq I sb b rx ht X.A.in1 (by show X.A.units + 1 < cLine; omega) z t
  · obtain ⟨its, rv, pl, _⟩ := I.list hq
    refine SeqAt.in_listAt (eV d) pl.isList (fun w hw => ?_) ⟨.bl _, H, I, by rw [← Array.any_toList, List.toList_toArray, eV_any d rv]; rfl, q⟩
    obtain ⟨z, t, rfl⟩ := eV_mem d rv w (by simpa using hw)
    exact strs_eq I sb b rx ht X.A.in1 (by show X.A.units + 1 < cLine; omega) z t
theorem op_notInS (hu : X.A.units + 64 < cLine) : OpR X (compareOp .NotIn) (rInS X true) := by
  rintro pins s σ H x y v u Q I rx ry ⟨F, d, ss, p, sb, b, ht, rfl, hq, q⟩
  cases ry
  rcases hq with hq | hq
  · obtain ⟨its, rv, ⟨o, ho, hc, m, hd⟩, _⟩ := I.tuple hq
    refine SeqAt.notIn_tupleAt (eV d) (show s.heap.IsTuple p its.toArray from ⟨o, ho, hc, m, hd⟩) (fun w hw => ?_) ⟨.bl _, H, I, by rw [← Array.any_toList, List.toList_toArray, eV_any d rv]; rfl, q⟩
    obtain ⟨z, t, rfl⟩ := eV_mem d rv w (by simpa using hw)
    exact strs_eq I sb b rx ht X.A.in1 (by show X.A.units + 1 < cLine; omega) z t
  · obtain ⟨its, rv, pl, _⟩ := I.list hq
    refine SeqAt.notIn_listAt (eV d) pl.isList (fun w hw => ?_) ⟨.bl _, H, I, by rw [← Array.any_toList, List.toList_toArray, eV_any d rv]; rfl, q⟩
    obtain ⟨z, t, rfl⟩ := eV_mem d rv w (by simpa using hw)
    exact strs_eq I sb b rx ht X.A.in1 (by show X.A.units + 1 < cLine; omega) z t
@[simp] def strL : List D → Option (List Str)
  | [] => some []
  | .str z :: ds => (strL ds).map (z :: ·)
  | _ :: _ => none
theorem strs_eqL : ∀ {ds : List D} {ss : List Str}, strL ds = some ss → ds = ss.map D.str
  | [], ss, h => by cases h; rfl
  | .str z :: ds, ss, h => by
    simp only [strL, Option.map_eq_some_iff] at h
    obtain ⟨r, h, rfl⟩ := h
    rw [strs_eqL h]
    rfl
  | .non :: _, _, h => by cases h
  | .bl _ :: _, _, h => by cases h
  | .int _ :: _, _, h => by cases h
  | .tup _ :: _, _, h => by cases h
  | .lst _ :: _, _, h => by cases h
  | .dic _ :: _, _, h => by cases h
  | .ref _ :: _, _, h => by cases h
  | .ty _ :: _, _, h => by cases h
  | .scr _ :: _, _, h => by cases h
  | .exc _ _ _ :: _, _, h => by cases h
  | .fn _ :: _, _, h => by cases h
theorem rp_strs {K : PySem.W.Frag} {F : Hp} : ∀ {ss : List Str} {vs : List V}, RpAll K F vs (ss.map D.str) → vs = ss.map V.str
  | [], _, r => by cases r; rfl
  | z :: ss, _, r => by
    cases r with
    | cons h t =>
      rw [rp_strs t]
      cases h
      rfl
def kInS (neg : Bool) : K2 := fun a b P => match b with
  | .tup ds => ∃ ss, strL ds = some ss ∧ (∃ t, a.tn = some t) ∧ P (.leaf (.bl (if neg then !ss.any (strIs a) else ss.any (strIs a))))
  | .lst ds => ∃ ss, strL ds = some ss ∧ (∃ t, a.tn = some t) ∧ P (.leaf (.bl (if neg then !ss.any (strIs a) else ss.any (strIs a))))
  | _ => False
theorem k_inS {neg : Bool} : Op2 X pa (rInS X neg) (kInS neg) := by
  intro F H σ Γ R x y a b P Q o ba bb h fin
  unfold kInS at h
  split at h
  · obtain ⟨ss, e, ht, h⟩ := h
    obtain ⟨p, vs, ev, q, r⟩ := bb.sqT
    rw [strs_eqL e] at r
    rw [rp_strs r] at q
    exact ⟨F, a, ss, p, o.sub, ba, ht, ev, .inl (o.sub.sqT q), fin _ _ (fin_leaf o (.bl _) h)⟩
  · obtain ⟨ss, e, ht, h⟩ := h
    obtain ⟨p, vs, ev, q, r⟩ := bb.sqL o.sub
    rw [strs_eqL e] at r
    rw [rp_strs r] at q
    exact ⟨F, a, ss, p, o.sub, ba, ht, ev, .inr q, fin _ _ (fin_leaf o (.bl _) h)⟩
  · exact h.elim
@[simp] theorem kInS_t {neg : Bool} {a : D} {ds : List D} {P : O → Prop} : kInS neg a (.tup ds) P = ∃ ss, strL ds = some ss ∧ (∃ t, a.tn = some t) ∧ P (.leaf (.bl (if neg then !ss.any (strIs a) else ss.any (strIs a)))) := rfl
@[simp] theorem kInS_l {neg : Bool} {a : D} {ds : List D} {P : O → Prop} : kInS neg a (.lst ds) P = ∃ ss, strL ds = some ss ∧ (∃ t, a.tn = some t) ∧ P (.leaf (.bl (if neg then !ss.any (strIs a) else ss.any (strIs a)))) := rfl
end
end L3
namespace L3
open PySem PySem.Spec PyProof.Rows L2
section
variable {X : Cx} {pa : List V} {pos p1 p4 p6 : Pos} {x : Str} {a : Expr} {ga : SA}
/-- a module's tuple of strs -/
structure TupG (K : PySem.W.Frag) (mg : Str → Option Value) (x : Str) (ss : List Str) : Prop where
  ex : ∃ (p : Addr) (o : Obj) (its : Array Value) (n : Nat), mg x = some (.ref p) ∧ K.lookup p = some o ∧ o.cls = .type "tuple" ∧ o.dict = none ∧ o.data = .seq its n ∧ its.size ≤ sizeLine ∧ Vals (ss.map V.str) its.toList
theorem rp_ofStrs {K : PySem.W.Frag} {F : Hp} : ∀ {ss : List Str}, RpAll K F (ss.map V.str) (ss.map D.str)
  | [] => .nil
  | z :: ss => .cons (.str z) rp_ofStrs
theorem TupG.at {K : PySem.W.Frag} {mg : Str → Option Value} {x : Str} {ss : List Str} (t : TupG K mg x ss) : ∃ p, mg x = some (.ref p) ∧ ∀ F, Rp K F (.ref p) (.tup (ss.map D.str)) := by
  obtain ⟨p, o, its, n, h1, h2, h3, h4, h5, h6, h7⟩ := t.ex
  exact ⟨p, h1, fun F => .tup (.inr ⟨o, its, n, h2, h3, h5, h6, h7⟩) rp_ofStrs⟩
/-- T.index(e) -/
@[simp] def sIxG (ss : List Str) (ga : SA) : SE := fun Γ κ Ex => ga Γ (fun a Γ1 => rdK Γ1 a fun d => ∃ (z : Str) (j : Nat), d = .str z ∧ ss[j]? = some z ∧ (∀ m, m < j → ss[m]? ≠ some z) ∧ κ (.leaf (.int (j : Nat))) Γ1) Ex
theorem ej_ixG {ss : List Str} (hg : Gl X x) (t : TupG X.K X.mg x ss) (ha : AJ X pa a ga) (hd : (x == ("__debug__" : Str)) = false := by decide)
    (hline : (p4.endLine == p6.line) = true := by rfl)
    (hbase : attributeBase (.Name x p1) "index" X.env (eval (.Name x p1) X.env) = eval (.Name x p1) X.env := by rfl)
    (hfew : ((backTo p6 (starEach [a] X.env)).all (fun x => !x.1) && (backToKw p6 (keywordEach [] X.env)).all (fun x => x.1.isSome)
      && decide (([a] : List Expr).length + ([] : List Keyword).length + (if ([] : List Keyword).isEmpty then 0 else 1) < 30)) = true := by rfl)
    (hse : starEach [a] X.env = (false, eval a X.env) :: starEach [] X.env := by rfl) :
    EJ X pa (.Call (.Attribute (.Name x p1) "index" p4) [a] [] p6) (sIxG ss ga) := ⟨fun W tk => by
  obtain ⟨p, o, its, n, h1, h2, h3, h4, h5, h6, h7⟩ := t.ex
  refine PE.imp (pe_bm PySem.F.plainAttrs_tuple PySem.F.slot_tuple_index PySem.F.type_tuple_index mt_tup_index (pe_glob hg h1 (v := .ref p) rfl hd) (pa_cons (ha.run W tk) pa_nil hse) hbase hfew hline hse) fun σ H Q ⟨F, Γ, R, Ex, Kc, oo, xl, q, k⟩ => ?_
  refine ⟨.inr (.inl ⟨rfl, o, h2, h3, h4⟩), F, Γ, R, Ex, _, oo, xl, q, fun ar Γ1 hq v F1 H1 R1 o1 s1 a1 => ?_⟩
  obtain ⟨d, bp, z, j, rfl, e1, e2, hq⟩ := rdK_ok o1 a1 hq
  exact ⟨p, ss, z, j, rfl, by rw [bp.str], .inr ⟨o, its, n, h2, h3, h5, h6, h7⟩, e1, e2, k _ _ hq _ F1 H1 R1 [] o1 s1 (.leaf (.int _))⟩⟩
end
end L3
namespace L3
open PySem PySem.Spec PyProof.Rows L2
section
variable {X : Cx} {pa : List V}
/-! ### True + 1, True - 1 -/
def rBI (g : Int → Int → Int) : R2 := fun x y H Q => ∃ b j, x = .bl b ∧ y = .int j ∧ Q (.int (g (if b = true then 1 else 0) j)) H
theorem op_addBI : OpR X (binaryOp .Add) (rBI fun i j => i + j) := by
  rintro pins s σ H x y v u Q I rx ry ⟨b, j, rfl, rfl, q⟩
  cases rx
  obtain ⟨t, rfl⟩ := ry
  exact PySem.IntBool.add_bool_int ⟨.int _, H, I.tok _, ⟨_, rfl⟩, q⟩
theorem op_subBI : OpR X (binaryOp .Sub) (rBI fun i j => i - j) := by
  rintro pins s σ H x y v u Q I rx ry ⟨b, j, rfl, rfl, q⟩
  cases rx
  obtain ⟨t, rfl⟩ := ry
  exact PySem.IntBool.sub_bool_int ⟨.int _, H, I.tok _, ⟨_, rfl⟩, q⟩
def kBI (g : Int → Int → Int) (k : K2) : K2 := fun a b P => match a, b with
  | .bl x, .int j => P (.leaf (.int (g (if x = true then 1 else 0) j)))
  | a, b => k a b P
theorem k_bi {r : R2} {g : Int → Int → Int} {k : K2} (hk : Op2 X pa r k) : Op2 X pa (fun x y H Q => r x y H Q ∨ rBI g x y H Q) (kBI g k) := by
  intro F H σ Γ R x y a b P Q o ba bb h fin
  unfold kBI at h
  split at h
  · exact .inr ⟨_, _, ba.bl, bb.int, fin _ _ (fin_leaf o (.int _) h)⟩
  · exact .inl (hk F H σ Γ R x y _ _ P Q o ba bb h fin)
@[simp] theorem kBI_b {g : Int → Int → Int} {k : K2} {x : Bool} {j : Int} {P : O → Prop} : kBI g k (.bl x) (.int j) P = P (.leaf (.int (g (if x = true then 1 else 0) j))) := rfl
@[simp] theorem kBI_i {g : Int → Int → Int} {k : K2} {i : Int} {b : D} {P : O → Prop} : kBI g k (.int i) b P = k (.int i) b P := rfl
@[simp] theorem kBI_t {g : Int → Int → Int} {k : K2} {xs : List D} {b : D} {P : O → Prop} : kBI g k (.tup xs) b P = k (.tup xs) b P := rfl
@[simp] theorem kBI_l {g : Int → Int → Int} {k : K2} {xs : List D} {b : D} {P : O → Prop} : kBI g k (.lst xs) b P = k (.lst xs) b P := rfl
@[simp] theorem kBI_s {g : Int → Int → Int} {k : K2} {x : Str} {b : D} {P : O → Prop} : kBI g k (.str x) b P = k (.str x) b P := rfl
end
end L3
namespace L3
open PySem PySem.Spec PyProof.Rows L2
theorem look_map {g : Str → NameKind → NameKind} {x : Str} (hg : ∀ n, (g n .cell = .cell ∨ g n .cell = .free) ∧ (g n .free = .cell ∨ g n .free = .free)) : ∀ {names : List (Str × NameKind)}, (names.lookup x = some .cell ∨ names.lookup x = some .free) →
    ((names.map fun (n, k) => (n, g n k)).lookup x = some .cell ∨ (names.map fun (n, k) => (n, g n k)).lookup x = some .free)
  | [], h => by rcases h with h | h <;> cases h
  | (n, k) :: r, h => by
    rw [List.map_cons]
    by_cases e : x = n
    · subst e
      simp only [List.lookup_cons, beq_self_eq_true] at h ⊢
      rcases h with h | h
      · cases h
        rcases (hg x).1 with z | z
        · exact .inl (by rw [z])
        · exact .inr (by rw [z])
      · cases h
        rcases (hg x).2 with z | z
        · exact .inl (by rw [z])
        · exact .inr (by rw [z])
    · have e' : (x == n) = false := by simpa using e
      simp only [List.lookup_cons, e'] at h ⊢
      exact look_map hg h
/-- a block within a block -/
theorem blkOk_in {N : List Str} {sc scope : Scope} {own : List (Str × Nat)} {cl : List (Str × Addr)} {C : Addr} {env : Env} (h : blkC N sc scope own = true) : BlkOk N (compEnvC sc cl C env).scope scope own := by
  have b := blkOk_by h
  refine ⟨b.kind, b.uniq, b.ix, fun y hy e => ?_, b.own⟩
  have q := look_map (g := fun n k => if (k == NameKind.free && env.scope.kind == .function && env.kindOf n == some .cell) then .cell else k) (fun n => ⟨.inl rfl, by
    by_cases c : (NameKind.free == NameKind.free && env.scope.kind == .function && env.kindOf n == some .cell) = true
    · exact .inl (if_pos c)
    · exact .inr (if_neg c)⟩) (b.free y hy e)
  have e2 : (compEnvC sc cl C env).scope.names = sc.names.map fun (n, k) => (n, if (k == NameKind.free && env.scope.kind == .function && env.kindOf n == some .cell) then .cell else k) := by
    show (relabel sc env).names = _
    unfold relabel
    refine List.map_congr_left fun p _ => ?_
    obtain ⟨n, k⟩ := p
    dsimp only
    split <;> rfl
  rw [e2]
  exact q
end L3
namespace L3
open PySem PySem.Spec PyProof.Rows L2
/-! ### errors of the text that keep what they are handed in one field -/
structure ErrT (K : PySem.W.Frag) (mg : Str → Option Value) (cn fld qual : Str) (st : Stmt) : Type where
  C : Addr
  fI : Addr
  fd : FuncData
  g : mg cn = some (.ref C)
  X : OexC K C
  F : Fun K "__init__" qual st fI fd
  B : Binds K fd ["self", fld] []
  iC : PySem.W.findIn K (.ref C) "__init__" = some (some (.ref fI))
  tI : PySem.W.typeIn K (.ref fI) = some (.type "function")
  ga : PySem.W.findIn K (.ref C) "__getattribute__" = some (some (.builtin "BaseException.__getattribute__"))
  gg : PySem.W.findIn K (.ref C) "__getattr__" = some none
  no : PySem.W.findIn K (.ref C) fld = some none
  hd : PySem.W.hasDictIn K C = true
  te : PySem.W.exmOne K (.ref C) (.ref C) = some true
/-- what __init__ does to a fresh one -/
def spI (C : Addr) (fld : Str) : Sp := fun vs H Q _ => ∃ (a : Addr) (y : V), vs = [.ref a, y] ∧ H a = some (exo a C none) ∧ ∀ dx, H dx = none → dx ≠ a → Q .non (upd (upd H dx (exd dx [(fld, y)])) a (exo a C (some dx)))
theorem spI_len {C : Addr} {fld : Str} (vs : List V) (H : Hp) (Q : VK) (E : XK) (h : spI C fld vs H Q E) : vs.length = (["self", fld] : List Str).length := by
  obtain ⟨a, y, rfl, _⟩ := h
  rfl
theorem spI_ok {K : PySem.W.Frag} {mg : Str → Option Value} {cn fld qual : Str} {st : Stmt} (e : ErrT K mg cn fld qual st) {N : List Str} {vs : List V} {H : Hp} {Q : VK} {E : XK} (h : spI e.C fld vs H Q E) (hN : N = (["self", fld] : List Str)) :
    tOst K fld (tVar 0) (tVar 1) { nx := fun _ H' => Q .non H', rt := Q } (L2.start N vs) H := by
  subst hN
  obtain ⟨a, y, rfl, hH, k⟩ := h
  exact ⟨_, rfl, _, rfl, a, e.C, rfl, e.X, e.no, .inl ⟨hH, fun dx h1 h2 => k dx h1 h2⟩⟩
section
variable {X : Cx} {pa : List V} {pos pos' pos2 p p1 np : Pos} {cn fld qual : Str} {st : Stmt} {a : Expr} {ga : SA} {z zs0 : SS} {K : PySem.W.Frag} {F H : Hp} {σ : Sg} {Γ : List S} {R : Nat → List Addr}
/-- what an operand is worth that is no thing of a name's own -/
def argV (Γ : List S) (a : Arg) (κ : D → Prop) : Prop := match a with
  | .val d => κ d
  | .slot i => match Γ[i]? with
    | some (.v d) => κ d
    | _ => False
@[simp] theorem argV_val {Γ : List S} {d : D} {κ : D → Prop} : argV Γ (.val d) κ = κ d := rfl
@[simp] theorem argV_v {Γ : List S} {i : Nat} {d : D} {κ : D → Prop} (h : Γ[i]? = some (.v d)) : argV Γ (.slot i) κ = κ d := by unfold argV; dsimp only; rw [h]
theorem argV_ok (o : OkF K pa F H σ Γ R) {v : V} {a : Arg} {κ : D → Prop} (q : ArgOk K F σ v a) (h : argV Γ a κ) : ∃ d, Rp K F v d ∧ κ d := by
  cases a with
  | val d => exact ⟨d, q, h⟩
  | slot i =>
    have q : σ[i]? = some (some v) := q
    unfold argV at h
    dsimp only at h
    split at h
    · rename_i d e
      obtain ⟨_, v', e', p⟩ := o.sl i _ e
      rw [q] at e'; cases e'
      exact ⟨d, p, h⟩
    · exact h.elim
/-- raise C(e) -/
@[simp] def zRaise (C : Addr) (fld : Str) (ga : SA) : SS := fun _ Γ Ex => ga Γ (fun a Γ1 => argV Γ1 a fun d => Ex ⟨.ref C, [(fld, d)]⟩ Γ1) Ex
theorem sj_raise (e : ErrT X.K X.mg cn fld qual st) (F1 : FnOk X.prog X.w X.K X.mg X.base CX0 1 e.fI e.fd ["self", fld] (spI e.C fld)) (hc : X.calm = true) (hr : Room 2 X.A) (hg : Gl X cn) (ha : AJ X pa a ga)
    (hdb : (cn == ("__debug__" : Str)) = false := by decide) (he : starEach (a :: []) X.env = (false, eval a X.env) :: starEach [] X.env := by rfl) (hpl : (backTo pos (starEach [] X.env)).any (·.1) = false := by rfl) :
    SJ X pa (.Raise (some (.Call (.Name cn p) [a] [] pos)) none pos2) (zRaise e.C fld ga) := ⟨fun W tk =>
  PS.imp (ps_raise hc tk (pmk_oex (dvs := []) (ds := []) e.X e.iC e.tI F1 hr e.B .nil pass0 hg e.g (pa_cons (ha.run W tk) pa_nil he) hdb he hpl)) fun D σ H ⟨F, Γ, R, Ex, k, o, xl, q, _⟩ => by
    refine ⟨F, Γ, R, Ex, _, o, xl σ, q, fun ar Γ1 h1 v F1 H1 R1 o1 s1 a1 => ?_⟩
    obtain ⟨d, rp, h2⟩ := argV_ok o1 a1 h1
    refine ⟨by show 1 ≤ 1000; decide, fun x hx => ⟨x, v, rfl, upd_same, fun dx h3 h4 => ⟨rfl, dx, [(fld, v)], upd_same, ?_, ?_, ?_⟩⟩⟩
    · rw [upd_ne h4, upd_same]
    · rw [upd_ne h4] at h3; exact h3
    · have hdx : H1 dx = none := by rw [upd_ne h4] at h3; exact h3
      have eH : upd (del (upd (upd (upd H1 x (exo x e.C none)) dx (exd dx [(fld, v)])) x (exo x e.C (some dx))) x) dx (.xd [(fld, v)]) = upd H1 dx (.xd [(fld, v)]) := by
        funext b
        by_cases hb : b = dx
        · subst hb; rw [upd_same, upd_same]
        · rw [upd_ne hb, upd_ne hb]
          by_cases hb2 : b = x
          · subst hb2; rw [del_same, hx]
          · rw [del_ne hb2, upd_ne hb2, upd_ne hb, upd_ne hb2]
      rw [eH]
      obtain ⟨o2, s2, sb⟩ := o1.newF (x := .xd [(fld, v)]) hdx
      exact xl σ _ _ _ _ _ _ _ h2 o2 (s1.trans s2) ⟨rfl, [(fld, v)], .of upd_same, rfl, .cons (Rp.mono sb _ _ rp) .nil⟩⟩
/-! ### try: .. except C as n: .. -/
theorem OkF.setUn {i : Nat} (o : OkF K pa F H σ Γ R) : OkF K pa F H (σ.set i none) (Γ.set i .un) (fun j => if j = i then [] else R j) := by
  refine ⟨o.sub, by rw [List.length_set, List.length_set, o.len], fun j s e => ?_, fun j k a h1 h2 => ?_, fun j a h => ?_, fun j a h => ?_, o.sys⟩
  · by_cases hj : j = i
    · subst hj
      by_cases hl : j < Γ.length
      · rw [List.getElem?_set_self hl] at e
        cases e
        show (if j = j then [] else R j) = []
        rw [if_pos rfl]
      · rw [List.getElem?_eq_none (by rw [List.length_set]; omega)] at e; cases e
    · rw [List.getElem?_set_ne (Ne.symm hj)] at e ⊢
      show SlotOk K pa F H _ (if j = i then [] else R j) _
      rw [if_neg hj]
      exact o.sl j s e
  · try dsimp only at h1 h2
    split at h1
    · cases h1
    · split at h2
      · cases h2
      · exact o.dj j k a h1 h2
  · try dsimp only at h
    split at h
    · cases h
    · exact o.fr j a h
  · try dsimp only at h
    split at h
    · cases h
    · exact o.hs j a h
theorem rpFl_of {K : PySem.W.Frag} {F : Hp} : ∀ {fs : List (Str × V)} {gs : List (Str × D)}, RpFs K F fs gs → RpFl K F fs gs
  | [], [], _ => .nil
  | [], g :: gs, h => by cases h.1
  | f :: fs, [], h => by cases h.1
  | (k, v) :: fs, (k', d) :: gs, ⟨h1, h2⟩ => by
    simp only [List.map_cons, List.cons.injEq] at h1
    simp only [List.map_cons] at h2
    obtain ⟨rfl, h1⟩ := h1
    cases h2 with
    | cons r rs => exact .cons r (rpFl_of ⟨h1, rs⟩)
@[simp] def zTryAs (C : Addr) (i : Nat) (z : SS) (zs : Addr → Value → Option Addr → SS) : SS := fun k Γ Ex => z k Γ fun x Γ' => x.cls = .ref C ∧ x.fs ≠ [] ∧ ∀ a dd, zs a (.ref C) (some dd) ⟨fun Γ2 => k.nx (Γ2.set i .un), k.rt, fun Γ2 => k.bk (Γ2.set i .un), fun Γ2 => k.ct (Γ2.set i .un)⟩ (Γ'.set i (.v (.exc a dd x.fs))) noX
theorem sj_tryAs {i : Nat} {n : Str} {body suite : List Stmt} {b₀ : Stmt} {zs : Addr → Value → Option Addr → SS} (e : ErrT X.K X.mg cn fld qual st) (hs : X.stack = X.env :: X.outer) (hf : X.env.frame = some X.env.locals) (hN : X.N.Nodup) (hi : X.N[i]? = some n) (hln : X.env.kindOf n = some .local) (hg : Gl X cn)
    (hb : ∀ (pn : List (Addr × Obj)) (xe : Value → Shared → Prop), SsJ (X.tr pn xe) pa body z)
    (hsu : ∀ (a : Addr) (oe : Obj) (cls : Value) (d : Option Addr) (pn : List (Addr × Obj)), Zc cls d oe → (∃ vs, oe.data = .fields vs) → SsJ (X.suite a ((a, oe) :: pn)) pa (b₀ :: suite) (zs a cls d))
    (hdb : (cn == ("__debug__" : Str)) = false := by decide) :
    SJ X pa (.Try body [.ExceptHandler (some (.Name cn np)) (some n) (b₀ :: suite) pos'] [] [] pos) (zTryAs e.C i z zs) := ⟨fun W tk =>
  PS.imp (ps_try_as (tb := fun W' => tS X.K pa W' z) (ts := fun a cls d => tS X.K pa noW (zs a cls d)) (Wout := W) hs hf hN hi hln ⟨hg, hdb, .inl e.g⟩ tk (fun W' pn xe tk' _ => (hb pn xe).run W' tk') (fun a oe cls d pn hz hd => (hsu a oe cls d pn hz hd).run noW takesNo)) fun D σ H ⟨F, Γ, R, Ex, k, o, xl, q, n1, n2, n3, n4⟩ => by
    refine ⟨F, Γ, R, _, k, o, fun σ1 x Γ' F' H' R' cls d ⟨ec, hne, hz⟩ o' s' er => ?_, q, n1, n2, n3, n4⟩
    obtain ⟨e1, e2⟩ := er
    rw [ec] at e1
    subst e1
    cases d with
    | none => exact absurd e2 hne
    | some dd =>
      obtain ⟨fs, rd, rf⟩ := e2
      refine ⟨true, e.te, fun _ a ha => ?_, fun h => nomatch h⟩
      have o2 := o'.setV (i := i) (v := .ref a) (d := .exc a dd x.fs) (.exc rd (rpFl_of rf))
      have s2 := s'.setV (i := i)
      refine ⟨F', _, _, noX, _, o2, fun _ _ _ _ _ _ _ _ h => h.elim, hz a dd, fun Γ2 h2 σ2 F2 H2 R2 o3 s3 => ?_, fun t Γ2 h2 v σ2 F2 H2 R2 r o3 s3 x3 => ?_, fun Γ2 h2 σ2 F2 H2 R2 o3 s3 => ?_, fun Γ2 h2 σ2 F2 H2 R2 o3 s3 => ?_⟩
      · exact n1 _ h2 _ F2 H2 _ (o3.setUn (i := i)) (s2.trans s3).setV
      · exact n2 _ _ h2 v σ2 F2 H2 R2 r o3 (s2.trans s3) x3
      · exact n3 _ h2 _ F2 H2 _ (o3.setUn (i := i)) (s2.trans s3).setV
      · exact n4 _ h2 _ F2 H2 _ (o3.setUn (i := i)) (s2.trans s3).setV⟩
/-- n.fld, n the error that the suite holds -/
@[simp] def sFld (a : Addr) (d : Option Addr) (fld : Str) (i : Nat) : SE := fun Γ κ _ => ∃ dd gs v, d = some dd ∧ Γ[i]? = some (.v (.exc a dd gs)) ∧ gs.lookup fld = some v ∧ κ (.leaf v) Γ
theorem rpFl_look {K : PySem.W.Frag} {F : Hp} {f : Str} {d : D} : ∀ {fs : List (Str × V)} {gs : List (Str × D)}, RpFl K F fs gs → gs.lookup f = some d → ∃ v, fs.lookup f = some v ∧ Rp K F v d
  | _, _, .nil, h => by cases h
  | _, _, .cons (k := k) r rs, h => by
    by_cases e : f = k
    · subst e
      simp only [List.lookup_cons, beq_self_eq_true] at h ⊢
      cases h
      exact ⟨_, rfl, r⟩
    · have e' : (f == k) = false := by simpa using e
      simp only [List.lookup_cons, e'] at h ⊢
      exact rpFl_look rs h
theorem ej_fld {i : Nat} {n : Str} {a : Addr} {oe : Obj} {d : Option Addr} {pn : List (Addr × Obj)} (e : ErrT X.K X.mg cn fld qual st) (hz : Zc (.ref e.C) d oe) (hf : ∃ vs, oe.data = .fields vs) (hp : PE (X.suite a ((a, oe) :: pn)) (.Name n p1) (tVar i))
    (hb : attributeBase (.Name n p1) fld X.env (eval (.Name n p1) X.env) = eval (.Name n p1) X.env := by rfl) :
    EJ (X.suite a ((a, oe) :: pn)) pa (.Attribute (.Name n p1) fld pos) (sFld a d fld i) := ⟨fun W tk => by
  refine ⟨fun pins s σ H Q I ⟨F, Γ, R, Ex, Kc, o, xl, ⟨dd, gs, v, ed, e1, e2, q⟩, k⟩ => ?_⟩
  obtain ⟨_, u0, ev, rp⟩ := o.sl i _ e1
  cases rp with
  | exc rd rf =>
    rename_i fs
    obtain ⟨v0, l0, r0⟩ := rpFl_look rf e2
    refine attr_of hb (thn (hp.run pins s σ H (fun x H1 => x = .ref a ∧ H1 = H) I ⟨_, ev, rfl, rfl⟩) fun u s1 ⟨x, H1, I1, rx, ex, eh⟩ => ?_)
    subst ex
    subst eh
    obtain rfl : u = Value.ref a := rx
    obtain ⟨ha, _⟩ := I1.pin (a, oe) (List.mem_append_left _ List.mem_cons_self)
    obtain ⟨vs, hdat⟩ := hf
    obtain ⟨mA, hns, hr⟩ := (o.sub.rd rd).ok I1.hok
    obtain ⟨od, ho, hl⟩ := lookIn_ns hns
    obtain ⟨u1, hu, ru⟩ := RelO.some_of (v := v0) (o := mA fld) (by rw [← l0]; exact hr fld)
    have J : PySem.W.InstAt s1.heap a oe e.C (some od) := ⟨ha, hz.1, by unfold PySem.W.notCls; rw [hdat] <;> rfl, by rw [hz.2, ed]; exact ho⟩
    exact PySem.HandSPX.exc_get I1.kIn J e.ga e.gg e.X.exC (PySem.W.findObj_own e.hd e.no rfl (by rw [hl, hu])) (handed_of ru) ⟨v0, H1, I1.tok _, ru, k _ _ q v0 F H1 R [] o .refl (.leaf r0)⟩⟩
end
end L3
/-! L3G: comprehensions of three clauses, by chains of clauses. -/
namespace L3
open PySem PySem.Spec PyProof.Rows L2
/-- the text of a turn of the clause k that hands on to the clause k + 1 -/
def TurnA (LC t i0 i1 : Expr) (ifs : List Expr) (k : Nat) : Prop := ∀ (it acc : Value) (env : Env), compTurn LC k it acc env = (do
      standAt i0.pos
      match ← pyNext it with
      | none => pure (.done .next)
      | some v =>
        letOwnedTupleGo t it v
        assign t env v
        let mut ok := true
        for c in ifs do
          if ok then ok ← isTrue c env (eval c env)
        if ok then
          let x ← eval i1 env
          standAt i1.pos
          let x ← foldedSetIterable i1 env x
          let _ ← runOwn (.compStart LC (k + 1) (← holding [x] (pyIter x)) acc env) env
        again (.compLoop LC k it acc env))
/-- .. of the last one -/
def TurnZ (LC t i0 elt : Expr) (ifs : List Expr) (k : Nat) : Prop := ∀ (it acc : Value) (env : Env), compTurn LC k it acc env = (do
      standAt i0.pos
      match ← pyNext it with
      | none => pure (.done .next)
      | some v =>
        letOwnedTupleGo t it v
        assign t env v
        let mut ok := true
        for c in ifs do
          if ok then ok ← isTrue c env (eval c env)
        if ok then
          (do let _ ← call (.builtin "list.append") [acc, ← eval elt env])
        again (.compLoop LC k it acc env))
/-- three clauses -/
structure C3 where
  elt : Expr
  t0 : Expr
  i0 : Expr
  t1 : Expr
  i1 : Expr
  t2 : Expr
  i2 : Expr
  f0 : List Expr
  f1 : List Expr
  f2 : List Expr
  scope : Scope
  pos : Pos
abbrev C3.e (c : C3) : Expr := .ListComp c.elt [⟨c.t0, c.i0, c.f0, 0⟩, ⟨c.t1, c.i1, c.f1, 0⟩, ⟨c.t2, c.i2, c.f2, 0⟩] c.scope c.pos
section
variable {prog : Program} {w : World} {A : Around} {R : Result → Shared → Prop} {s : Shared} {c3 : C3} {elt t i0 i1 : Expr} {ifs : List Expr} {k : Nat} {it acc : Value} {env : Env}
/-- how an error leaves a turn -/
abbrev Nt (prog : Program) (w : World) (A : Around) (env : Env) (R : Result → Shared → Prop) : Value → Shared → Prop := notedBy (model prog w) A env fun e z => R (.error e) z
theorem loopA (hk : k = 0 ∨ k = 1) (hT : TurnA c3.e t i0 i1 ifs k) (hs : ∀ x, foldedSetIterable i1 env x = pure x) (I : Nat → Shared → Prop)
    (turn : ∀ n z, I n z → wpAny (model prog w) A (pyNext it) (fun r z1 => match r with
      | none => R (.ok .next) z1
      | some v => wpAny (model prog w) A (letOwnedTupleGo t it v) (fun _ z2 => wpAny (model prog w) A (assign t env v) (fun _ z3 =>
          wpAny (model prog w) A (forIn ifs true fun c r => if r = true then do let ok ← isTrue c env (eval c env); pure (ForInStep.yield ok) else pure (ForInStep.yield r)) (fun ok z4 =>
            if ok = true then wpAny (model prog w) A (eval i1 env) (fun x z5 => wpAny (model prog w) A (pyIter x) (fun it1 z6 =>
              codeAny (model prog w) A (.compStart c3.e (k + 1) it1 acc env) (fun r z' => match r with
                | .ok _ => ∃ m, m < n ∧ I m z'
                | .error _ => False) z6) (Nt prog w A env R) z5) (Nt prog w A env R) z4
            else ∃ m, m < n ∧ I m z4) (Nt prog w A env R) z3) (Nt prog w A env R) z2) (Nt prog w A env R) z1) (Nt prog w A env R) z)
    (n : Nat) (h : I n s) : codeAny (model prog w) A (.compLoop c3.e k it acc env) R s := by
  refine codeAny_loop rfl I (fun n z hI => ?_) n h
  have e0 : (model prog w).den (.compLoop c3.e k it acc env) = (compTurn c3.e k it acc env).onRaise (fun x => do noteFrame x env; theTreesLotGoes x) := by rcases hk with rfl | rfl <;> rfl
  rw [e0]
  refine wpAny_noted ?_
  rw [hT]
  refine wpAny_bind (wpAny_standAt (wpAny_bind (wpAny_mono (turn n z hI) (fun r z1 g1 => ?_) fun _ _ e => e)))
  cases r with
  | none => exact wpAny_pure g1
  | some v =>
    refine wpAny_bind (wpAny_mono g1 (fun _ z2 g2 => ?_) fun _ _ e => e)
    refine wpAny_bind (wpAny_mono g2 (fun _ z3 g3 => wpAny_bind (wpAny_mono g3 (fun ok z4 g4 => ?_) fun _ _ e => e)) fun _ _ e => e)
    cases ok with
    | false => exact wpAny_pure ⟨rfl, g4⟩
    | true =>
      refine wpAny_bind (wpAny_mono g4 (fun x z5 g5 => ?_) fun _ _ e => e)
      refine wpAny_bind (wpAny_standAt (wpAny_bind (wpAny_of_eq (hs x) (wpAny_bind (wpAny_holding (wpAny_mono g5 (fun it1 z6 g6 => ?_) fun _ _ e => e))))))
      refine wpAny_bind (wpAny_runOwn ?_)
      rw [Around.mark_none]
      refine codeAny_mono g6 fun r z' hr => ?_
      cases r with
      | ok f => first | exact wpAny_pure ⟨rfl, hr⟩ | exact wpAny_bind (wpAny_pure (wpAny_pure ⟨rfl, hr⟩))
      | error e => exact hr.elim
theorem loopZ (hk : k = 2) (hT : TurnZ c3.e t i0 elt ifs k) (I : Nat → Shared → Prop)
    (turn : ∀ n z, I n z → wpAny (model prog w) A (pyNext it) (fun r z1 => match r with
      | none => R (.ok .next) z1
      | some v => wpAny (model prog w) A (letOwnedTupleGo t it v) (fun _ z2 => wpAny (model prog w) A (assign t env v) (fun _ z3 =>
          wpAny (model prog w) A (forIn ifs true fun c r => if r = true then do let ok ← isTrue c env (eval c env); pure (ForInStep.yield ok) else pure (ForInStep.yield r)) (fun ok z4 =>
            if ok = true then wpAny (model prog w) A (eval elt env) (fun x z5 =>
              wpAny (model prog w) A (call (.builtin "list.append") [acc, x]) (fun _ z6 => ∃ m, m < n ∧ I m z6) (Nt prog w A env R) z5) (Nt prog w A env R) z4
            else ∃ m, m < n ∧ I m z4) (Nt prog w A env R) z3) (Nt prog w A env R) z2) (Nt prog w A env R) z1) (Nt prog w A env R) z)
    (n : Nat) (h : I n s) : codeAny (model prog w) A (.compLoop c3.e k it acc env) R s := by
  refine codeAny_loop rfl I (fun n z hI => ?_) n h
  have e0 : (model prog w).den (.compLoop c3.e k it acc env) = (compTurn c3.e k it acc env).onRaise (fun x => do noteFrame x env; theTreesLotGoes x) := by subst hk; rfl
  rw [e0]
  refine wpAny_noted ?_
  rw [hT]
  refine wpAny_bind (wpAny_standAt (wpAny_bind (wpAny_mono (turn n z hI) (fun r z1 g1 => ?_) fun _ _ e => e)))
  cases r with
  | none => exact wpAny_pure g1
  | some v =>
    refine wpAny_bind (wpAny_mono g1 (fun _ z2 g2 => ?_) fun _ _ e => e)
    refine wpAny_bind (wpAny_mono g2 (fun _ z3 g3 => wpAny_bind (wpAny_mono g3 (fun ok z4 g4 => ?_) fun _ _ e => e)) fun _ _ e => e)
    cases ok with
    | false => exact wpAny_pure ⟨rfl, g4⟩
    | true => exact wpAny_bind (wpAny_bind (wpAny_mono g4 (fun x z5 g5 => wpAny_bind (wpAny_mono g5 (fun _ z6 g6 => wpAny_pure (wpAny_pure ⟨rfl, g6⟩)) fun _ _ e => e)) fun _ _ e => e))
/-- a later clause's start -/
theorem startA (hk : k = 1 ∨ k = 2) (h0 : codeAny (model prog w) A (.compLoop c3.e k it acc env) R s)
    (h : wpAny (model prog w) A (pyIter it) (fun it' z => codeAny (model prog w) A (.compLoop c3.e k it' acc env) R z) (Nt prog w A env R) s) :
    codeAny (model prog w) A (.compStart c3.e k it acc env) R s := by
  rcases hk with rfl | rfl
  all_goals
    refine codeAny_of_tree ?_
    show wpAny _ _ ((compStart c3.e _ it acc env).onRaise (fun x => do noteFrame x env; standAt theWindowsPlace)) _ _ s
    refine wpAny_notedAt ?_
    unfold compStart
    show wpAny _ _ (ask >>= _) _ _ s
    refine wpAny_bind (wpAny_askSetting (wpAny_ite ?_))
    split
    · first
        | exact wpAny_bind (wpAny_pure (wpAny_pure (And.intro rfl h0)))
        | exact wpAny_pure (And.intro rfl h0)
    · first
        | exact wpAny_bind (wpAny_rule (wpAny_bind (wpAny_standAt (wpAny_bind (wpAny_mono h (fun it' z h' => wpAny_pure (And.intro rfl h')) fun _ _ x => x)))))
        | (refine wpAny_bind (wpAny_rule ?_); show wpAny _ _ (standAt _ >>= _) _ _ s; exact wpAny_bind (wpAny_standAt (wpAny_bind (wpAny_mono h (fun it' z h' => wpAny_pure (And.intro rfl h')) fun _ _ x => x))))
end
theorem turn3_0 (c : C3) : TurnA c.e c.t0 c.i0 c.i1 c.f0 0 := fun _ _ _ => by rfl
theorem turn3_1 (c : C3) : TurnA c.e c.t1 c.i1 c.i2 c.f1 1 := fun _ _ _ => by rfl
theorem turn3_2 (c : C3) : TurnZ c.e c.t2 c.i2 c.elt c.f2 2 := fun _ _ _ => by rfl
abbrev Rd3 := It → L2.St → Hp → (Hp → Prop) → Prop
/-- what a clause that hands on asks -/
def rdA (g : TG) (tt : TT) (wi1 : TI) (rd1 : Rd3) (vs : List Nat) : Rd3 := fun J σ H Nx => ∃ W : Nat → Nat → Hp → Prop, (∃ m, W 0 m H) ∧ ∀ j k H, W j k H →
  (J.stop j H ∧ Nx H) ∨ (J.go j H ∧ ∃ Nx1 : Hp → Prop, (∀ H', Nx1 H' → ∃ k', k' < k ∧ W (j + 1) k' H') ∧ ∀ x H', J.yld j H x H' → g x (wipe σ vs) H' fun σ2 H2 => wipe σ2 vs = wipe σ vs ∧
    tt σ2 H2 fun b H3 => if b = true then wi1 σ2 H3 fun J1 H4 => rd1 J1 σ2 H4 Nx1 else Nx1 H3)
/-- what the last one asks -/
def rdZ (g : TG) (tt : TT) (te : TE) (D : Addr) (vs : List Nat) : Rd3 := fun J σ H Nx => ∃ W : Nat → Nat → Hp → Prop, (∃ m, W 0 m H) ∧ ∀ j k H, W j k H →
  (J.stop j H ∧ Nx H) ∨ (J.go j H ∧ ∃ Nx1 : Hp → Prop, (∀ H', Nx1 H' → ∃ k', k' < k ∧ W (j + 1) k' H') ∧ ∀ x H', J.yld j H x H' → g x (wipe σ vs) H' fun σ2 H2 => wipe σ2 vs = wipe σ vs ∧
    tt σ2 H2 fun b H3 => if b = true then te σ2 H3 fun y H4 => ∃ acc, H4 D = some (.lst acc) ∧ acc.length < sizeLine ∧ Nx1 (upd H4 D (.lst (acc ++ [y]))) else Nx1 H3)
section
variable {X : Cx} {s3 : Shared} {H3 : Hp} {scope : Scope} {ce : Env} {fp0 : List Addr} {c3 : C3} {k : Nat} {D : Addr} {tg tg1 i0 i1 elt : Expr} {ifs : List Expr} {g : TG} {tt : TT} {te : TE} {wi1 : TI} {rd rd1 : Rd3} {vs vs1 : List Nat}
/-- a clause's loop, in the block -/
def LoopOk (Xb : Cx) (LC : Expr) (k : Nat) (D : Addr) (tg : Expr) (rd : Rd3) (vs : List Nat) : Prop := ∀ (pins : List (Addr × Obj)) (s : Shared) (σ : L2.St) (H : Hp) (it : Addr) (fp : List Addr) (tn : Nat → Heap → Prop) (J : It) (Nx : Hp → Prop),
  Inv Xb pins σ H s → Turn Xb.prog Xb.w Xb.K tg J fp it tn → tn 0 s.heap → (∀ b ∈ fp, FpOk Xb pins H b) → rd J σ H Nx →
  codeAny (model Xb.prog Xb.w) Xb.A (.compLoop LC k (.ref it) (.ref D) Xb.env) (fun r z => match r with
    | .ok f => f = .next ∧ ∃ H', Inv Xb pins (wipe σ vs) H' z ∧ Nx H'
    | .error _ => False) s
theorem loopOkA (hk : k = 0 ∨ k = 1) (hT : TurnA c3.e tg i0 i1 ifs k) (hc : X.calm = true) (hs1 : ∀ x, foldedSetIterable i1 ce x = pure x) (hv : ∀ i ∈ vs1, i ∈ vs)
    (hg : PG (X.blk s3 H3 scope ce fp0) tg g) (ht : PTs (X.blk s3 H3 scope ce fp0) ifs tt) (hi : PI (X.blk s3 H3 scope ce fp0) tg1 i1 wi1) (hl : LoopOk (X.blk s3 H3 scope ce fp0) c3.e (k + 1) D tg1 rd1 vs1) :
    LoopOk (X.blk s3 H3 scope ce fp0) c3.e k D tg (rdA g tt wi1 rd1 vs) vs := by
  rintro pins s σ H it fp tn J Nx I T st fok ⟨W, ⟨m0, w0⟩, turn⟩
  have free : ∀ {H' : Hp}, (∀ b ∈ fp, H' b = none) → ∀ b ∈ fp, FpOk (X.blk s3 H3 scope ce fp0) pins H' b := fun hn b hb => ⟨hn b hb, (fok b hb).2⟩
  refine loopA hk hT hs1 (fun n z => ∃ i H', Inv (X.blk s3 H3 scope ce fp0) pins (wipe σ vs) H' z ∧ tn i z.heap ∧ (∀ b ∈ fp, H' b = none) ∧ W i n H') ?_ m0
    ⟨0, H, I.weak (wipe_length _ _) (fun _ _ e => (wipe_some e).1), st, fun b hb => (fok b hb).1, w0⟩
  rintro n z5 ⟨i, H5, I5, st5, n5, w5⟩
  rcases turn i n H5 w5 with ⟨stp, nx⟩ | ⟨go, Nx1, hNx, step⟩
  · refine thnF (T.done _ rfl rfl rfl hc i pins z5 _ H5 (fun _ _ => False) I5 (free n5) st5 stp) fun r z6 ⟨hr, I6⟩ => ?_
    subst hr
    exact ⟨rfl, H5, I6, nx⟩
  refine thnF (T.item _ rfl rfl rfl hc i pins z5 _ H5 (fun _ _ => False) I5 (free n5) st5 go) fun r z6 ⟨u, hr, h6⟩ => ?_
  subst hr
  refine thnF h6 fun _ z7 ⟨x, H7, I7, r7, y7, st7, n7⟩ => ?_
  have P7 := I7.pinned (free n7) (T.obj _ _ st7)
  refine thnF (hg.run _ z7 _ H7 x u _ P7 r7 (step x H7 y7)) fun _ z8 ⟨σ8, H8, I8, hw8, q8⟩ => ?_
  refine thnF (ht.run _ z8 σ8 H8 _ I8 q8) fun b z9 ⟨H9, I9, q9⟩ => ?_
  have back : ∀ {σ' : L2.St} {z : Shared} {H' : Hp}, Inv (X.blk s3 H3 scope ce fp0) (pins ++ pinsAt fp z7.heap) σ' H' z → (wipe σ vs).length = σ'.length → (∀ (j : Nat) v, (wipe σ vs)[j]? = some (some v) → σ'[j]? = some (some v)) → Nx1 H' →
      ∃ m, m < n ∧ ∃ i H', Inv (X.blk s3 H3 scope ce fp0) pins (wipe σ vs) H' z ∧ tn i z.heap ∧ (∀ b ∈ fp, H' b = none) ∧ W i m H' := fun {σ' z H'} I' hlen hkn nx => by
    obtain ⟨m', hm, w'⟩ := hNx H' nx
    have pin : ∀ b ∈ fp, ∀ o, z7.heap.get? b = some o → z.heap.get? b = some o ∧ H' b = none := fun b hb o e =>
      have q := I'.pin (b, o) (List.mem_append_right _ (List.mem_append_right _ (mem_pinsAt hb e)))
      ⟨q.1, q.2.1⟩
    refine ⟨m', hm, i + 1, H', (I'.unpinned).weak hlen hkn, T.keep _ _ _ st7 fun b hb o e => (pin b hb o e).1, fun b hb => ?_, w'⟩
    obtain ⟨o, e, _⟩ := T.obj _ _ st7 b hb
    exact (pin b hb o e).2
  have len8 : (wipe σ vs).length = σ8.length := by rw [← hw8, wipe_length]
  cases b with
  | false =>
    rw [if_neg Bool.false_ne_true] at q9 ⊢
    exact back I9 len8 (fun j v e => by rw [← hw8] at e; exact (wipe_some e).1) q9
  | true =>
    rw [if_pos rfl] at q9 ⊢
    refine thnF (hi.run _ z9 σ8 H9 _ I9 q9) fun xv z10 hx => thnF hx fun itv z11 ⟨it1, fp1, tn1, J1, H11, e1, I11, T1, st11, f11, q11⟩ => ?_
    subst e1
    have lp := hl _ z11 σ8 H11 it1 fp1 tn1 J1 Nx1 I11 T1 st11 f11 q11
    have st1 := startA (R := fun r z => match r with
      | .ok f => f = .next ∧ ∃ H', Inv (X.blk s3 H3 scope ce fp0) (pins ++ pinsAt fp z7.heap) (wipe σ8 vs1) H' z ∧ Nx1 H'
      | .error _ => False) (k := k + 1) (by omega) lp (T1.self X.A 0 _ _ _ st11 lp)
    refine codeAny_mono st1 fun r z hr => ?_
    cases r with
    | error e => exact hr.elim
    | ok f =>
      obtain ⟨_, H', I', nx⟩ := hr
      refine back I' (len8.trans (wipe_length σ8 vs1).symm) (fun j v e => ?_) nx
      rw [← hw8] at e
      obtain ⟨e1, e2⟩ := wipe_some e
      rw [wipe_out fun q => e2 (hv j q)]
      exact e1
theorem loopOkZ (hT : TurnZ c3.e tg i0 elt ifs 2) (hc : X.calm = true)
    (hg : PG (X.blk s3 H3 scope ce fp0) tg g) (ht : PTs (X.blk s3 H3 scope ce fp0) ifs tt) (he : PE (X.blk s3 H3 scope ce fp0) elt te) :
    LoopOk (X.blk s3 H3 scope ce fp0) c3.e 2 D tg (rdZ g tt te D vs) vs := by
  rintro pins s σ H it fp tn J Nx I T st fok ⟨W, ⟨m0, w0⟩, turn⟩
  have free : ∀ {H' : Hp}, (∀ b ∈ fp, H' b = none) → ∀ b ∈ fp, FpOk (X.blk s3 H3 scope ce fp0) pins H' b := fun hn b hb => ⟨hn b hb, (fok b hb).2⟩
  refine loopZ rfl hT (fun n z => ∃ i H', Inv (X.blk s3 H3 scope ce fp0) pins (wipe σ vs) H' z ∧ tn i z.heap ∧ (∀ b ∈ fp, H' b = none) ∧ W i n H') ?_ m0
    ⟨0, H, I.weak (wipe_length _ _) (fun _ _ e => (wipe_some e).1), st, fun b hb => (fok b hb).1, w0⟩
  rintro n z5 ⟨i, H5, I5, st5, n5, w5⟩
  rcases turn i n H5 w5 with ⟨stp, nx⟩ | ⟨go, Nx1, hNx, step⟩
  · refine thnF (T.done _ rfl rfl rfl hc i pins z5 _ H5 (fun _ _ => False) I5 (free n5) st5 stp) fun r z6 ⟨hr, I6⟩ => ?_
    subst hr
    exact ⟨rfl, H5, I6, nx⟩
  refine thnF (T.item _ rfl rfl rfl hc i pins z5 _ H5 (fun _ _ => False) I5 (free n5) st5 go) fun r z6 ⟨u, hr, h6⟩ => ?_
  subst hr
  refine thnF h6 fun _ z7 ⟨x, H7, I7, r7, y7, st7, n7⟩ => ?_
  have P7 := I7.pinned (free n7) (T.obj _ _ st7)
  refine thnF (hg.run _ z7 _ H7 x u _ P7 r7 (step x H7 y7)) fun _ z8 ⟨σ8, H8, I8, hw8, q8⟩ => ?_
  refine thnF (ht.run _ z8 σ8 H8 _ I8 q8) fun b z9 ⟨H9, I9, q9⟩ => ?_
  have back : ∀ {z : Shared} {H' : Hp}, Inv (X.blk s3 H3 scope ce fp0) (pins ++ pinsAt fp z7.heap) σ8 H' z → Nx1 H' →
      ∃ m, m < n ∧ ∃ i H', Inv (X.blk s3 H3 scope ce fp0) pins (wipe σ vs) H' z ∧ tn i z.heap ∧ (∀ b ∈ fp, H' b = none) ∧ W i m H' := fun {z H'} I' nx => by
    obtain ⟨m', hm, w'⟩ := hNx H' nx
    have pin : ∀ b ∈ fp, ∀ o, z7.heap.get? b = some o → z.heap.get? b = some o ∧ H' b = none := fun b hb o e =>
      have q := I'.pin (b, o) (List.mem_append_right _ (List.mem_append_right _ (mem_pinsAt hb e)))
      ⟨q.1, q.2.1⟩
    refine ⟨m', hm, i + 1, H', (I'.unpinned).weak (by rw [← hw8, wipe_length]) (fun j v e => by rw [← hw8] at e; exact (wipe_some e).1), T.keep _ _ _ st7 fun b hb o e => (pin b hb o e).1, fun b hb => ?_, w'⟩
    obtain ⟨o, e, _⟩ := T.obj _ _ st7 b hb
    exact (pin b hb o e).2
  cases b with
  | false =>
    rw [if_neg Bool.false_ne_true] at q9 ⊢
    exact back I9 q9
  | true =>
    rw [if_pos rfl] at q9 ⊢
    refine thnF (he.run _ z9 σ8 H9 _ I9 q9) fun y z10 ⟨yv, H10, I10, r10, acc, hD, hz, nx⟩ => ?_
    exact app_ok (X := X.blk s3 H3 scope ce fp0) I10 hD hz r10 fun z11 I11 => back I11 nx
end
end L3
/-! L3G2: comprehensions of three clauses: the whole. -/
namespace L3
open PySem PySem.Spec PyProof.Rows L2
section
variable {X : Cx} {pins : List (Addr × Obj)} {c3 : C3} {wi : TI} {rd : Addr → Rd3}
/-- what the whole asks -/
def tLc3 (wi : TI) (rd : Addr → Rd3) (vs : List Nat) : TE := fun σ H Q => wi σ H fun J H1 => ∀ D, H1 D = none → rd D J (wipe σ vs) (upd H1 D (.lst [])) fun H' => Q (.ref D) H'
theorem core3 {z0 : Shared} {σ : L2.St} {G : Hp} {Q : VK} {own : List (Str × Nat)} {pos' : Pos} {use : Option (Value → Sem Unit)} {Qf : Value → Shared → Prop}
    (hc : X.calm = true) (hN : X.N.Nodup) (I : Inv X pins σ G z0) (hi : PI X c3.t0 c3.i0 wi) (bk : BlkOk X.N X.env.scope c3.scope own)
    (hl : ∀ (z : Shared) (G' : Hp) (C : Addr) (cl : List (Str × Addr)) (fp : List Addr) (D : Addr), LoopOk (X.blk z G' c3.scope (compEnvC c3.scope cl C X.env) fp) c3.e 0 D c3.t0 (rd D) (own.map (·.2)))
    (hs : ∀ x, foldedSetIterable c3.i0 X.env x = pure x) (h : tLc3 wi rd (own.map (·.2)) σ G Q)
    (hQ : ∀ D C z m G', Inv X pins σ G' z → Q (.ref D) G' → z.heap.Ns C m → FpOk X pins G' C → compPost (model X.prog X.w) X.A X.xe use Qf (.ref D) C (.ok .next) z) :
    wpAny (model X.prog X.w) X.A (comprehension c3.e c3.scope X.env pos' (newList []) false (eval c3.i0 X.env) use) Qf X.xe z0 := by
  have fre : ∀ q ∈ c3.scope.names, q.2 = .free → ∃ c, X.env.cells.lookup q.1 = some c := fun q hq e => (bk.free q hq e).elim (fun k => I.ok.has _ (.inl k)) (fun k => I.ok.has _ (.inr k))
  refine wpAny_comprehension_free (use := use) rfl hs (closure_ok fre) bk.kind (fun q hq e => by rw [bk.uniq q hq, e]) ?_
  refine thn (hi.run pins z0 σ G _ I h) fun xv z1 hx => thn hx fun itv z2 ⟨it, fp, tn, J, G2, e, I2, T, st2, f2, q⟩ => ?_
  subst e
  refine wpAny_newObj_type (newEnv_comp ?_) (Nat.zero_le _)
  obtain ⟨D, hD⟩ : ∃ D, D = z2.heap.objs.size := ⟨_, rfl⟩
  rw [← hD]
  have dn : G2 D = none := I2.hok.fresh (Nat.le_of_eq hD.symm)
  have q := q D dn
  obtain ⟨z3, hz3⟩ : ∃ z3 : Shared, z3 = { z2 with heap := z2.heap.push { cls := .type "list", data := .seq ([] : List Value).toArray } } := ⟨_, rfl⟩
  rw [← hz3]
  have hp3 : z3.heap = z2.heap.push { cls := .type "list", data := .seq ([] : List Value).toArray } := by rw [hz3]
  have I3 : Inv X pins σ (upd G2 D (.lst [])) z3 := by
    rw [hz3]
    refine I2.laid (t' := z2.toks) (fun b o e => Heap.get?_push_of_some _ e) (Nat.le_of_eq hD.symm) ⟨Nat.zero_le _, [], 0, .nil, ?_⟩
    rw [hD]
    exact Heap.get?_push_size _ rfl
  have below : ∀ b ∈ fp, b < z2.heap.objs.size := fun b hb => let ⟨o, e, _⟩ := T.obj _ _ st2 b hb; Heap.lt_size e
  have f3 : ∀ b ∈ fp, FpOk X pins (upd G2 D (.lst [])) b ∧ b < z3.heap.objs.size := fun b hb =>
    ⟨⟨by rw [upd_ne (by rw [hD]; exact Nat.ne_of_lt (below b hb))]; exact (f2 b hb).1, (f2 b hb).2⟩, by rw [hp3, Heap.size_push]; exact Nat.lt_succ_of_lt (below b hb)⟩
  have st3 : tn 0 z3.heap := T.keep _ _ _ st2 fun b _ o e => by rw [hp3]; exact Heap.get?_push_of_some _ e
  have I4 := block_start I3 bk hN f3
  have L := hl z3 (upd G2 D (.lst [])) z3.heap.objs.size (cellsFrom (z3.heap.objs.size + 1) c3.scope.names (cloFrom X.env.cells c3.scope.names [])) fp D
  show codeAny _ _ (.compStart c3.e 0 (.ref it) (.ref D) (compEnvC c3.scope (cellsFrom (z3.heap.objs.size + 1) c3.scope.names (cloFrom X.env.cells c3.scope.names [])) z3.heap.objs.size X.env)) (compPost (model X.prog X.w) X.A X.xe use Qf (.ref D) z3.heap.objs.size) { z3 with heap := pushCells (z3.heap.push { cls := .type "dict", data := .dict #[] }) c3.scope.names }
  obtain ⟨ce, hce⟩ : ∃ ce, ce = compEnvC c3.scope (cellsFrom (z3.heap.objs.size + 1) c3.scope.names (cloFrom X.env.cells c3.scope.names [])) z3.heap.objs.size X.env := ⟨_, rfl⟩
  have cL : ce.locals = z3.heap.objs.size := by subst hce; rfl
  rw [← hce] at I4 L ⊢
  obtain ⟨z4, hz4⟩ : ∃ z4 : Shared, z4 = { z3 with heap := pushCells (z3.heap.push { cls := .type "dict", data := .dict #[] }) c3.scope.names } := ⟨_, rfl⟩
  rw [← hz4] at I4 ⊢
  have st4 : tn 0 z4.heap := T.keep _ _ _ st3 fun b _ o e => by rw [hz4]; exact pushCells_keeps _ _ _ _ (Heap.get?_push_of_some _ e)
  have f4 : ∀ b ∈ fp, FpOk (X.blk z3 (upd G2 D (.lst [])) c3.scope ce fp) [] (upd G2 D (.lst [])) b := fun b hb =>
    ⟨(f3 b hb).1.1, (I4.ok.exf b hb).1, I4.ok.exfs b hb, .inl hb, fun x c e => (I4.ok.exf b hb).2 x c e, fun p hp => absurd (show p ∈ ([] : List (Addr × Obj)) ++ [] from hp) (by simp)⟩
  have lp := L [] z4 _ _ it fp tn J _ I4 T st4 f4 q
  have lp2 : codeAny (model X.prog X.w) X.A (.compLoop c3.e 0 (.ref it) (.ref D) ce) (compPost (model X.prog X.w) X.A X.xe use Qf (.ref D) z3.heap.objs.size) z4 := by
    refine codeAny_mono lp fun r z hr => ?_
    cases r with
    | error e => exact hr.elim
    | ok f =>
      obtain ⟨rfl, G', I6, qq⟩ := hr
      have I7 : Inv X pins σ G' z := I3.call' (ch := fp) I6.os I6.base I6.hok I6.bare fun b hb => let w := (f3 b hb).1.2; ⟨w.2.2.1, w.1, w.2.2.2.1, w.2.2.2.2⟩
      have nC : G' ce.locals = none := I6.free
      rw [cL] at nC
      obtain ⟨m, hn, _⟩ := I6.loc
      have hn : z.heap.Ns ce.locals m := hn
      rw [cL] at hn
      exact hQ D z3.heap.objs.size z m G' I7 qq hn (I3.fpOk (Nat.le_refl _) nC)
  exact codeAny_compStart_list lp2 (T.self X.A 0 _ _ _ st4 lp2)
/-- as a value -/
theorem pe_lc3 {own : List (Str × Nat)} (hc : X.calm = true) (hN : X.N.Nodup) (hi : PI X c3.t0 c3.i0 wi) (bk : BlkOk X.N X.env.scope c3.scope own)
    (hl : ∀ (z : Shared) (G' : Hp) (C : Addr) (cl : List (Str × Addr)) (fp : List Addr) (D : Addr), LoopOk (X.blk z G' c3.scope (compEnvC c3.scope cl C X.env) fp) c3.e 0 D c3.t0 (rd D) (own.map (·.2)))
    (hs : ∀ x, foldedSetIterable c3.i0 X.env x = pure x) : PE X c3.e (tLc3 wi rd (own.map (·.2))) := by
  refine ⟨fun pins z σ G Q I h => ?_⟩
  rw [show eval c3.e X.env = _ from eval_ListComp ..]
  refine core3 hc hN I hi bk hl hs h fun D C z' m G' I' q hn f => ⟨m, hn, fun h'' sb => ?_⟩
  have ⟨f0, f1, f2, f3, f4, f5⟩ := f
  exact ⟨.ref D, G', I'.turned (t' := z'.toks) (fun b o hb e => (sb.2 b hb).trans e) f0 f1 f3 f4 f5, rfl, q⟩
/-- name = [..] -/
theorem ps_setLc3 {i : Nat} {y : Str} {py spos : Pos} {own : List (Str × Nat)} (hc : X.calm = true) (hN : X.N.Nodup) (hy : X.N[i]? = some y) (hyl : X.env.scope.names.lookup y = some .local)
    (hsw : swapsWith c3.e (some (.Name y py)) spos.line X.env = pure true) (hi : PI X c3.t0 c3.i0 wi) (bk : BlkOk X.N X.env.scope c3.scope own)
    (hl : ∀ (z : Shared) (G' : Hp) (C : Addr) (cl : List (Str × Addr)) (fp : List Addr) (D : Addr), LoopOk (X.blk z G' c3.scope (compEnvC c3.scope cl C X.env) fp) c3.e 0 D c3.t0 (rd D) (own.map (·.2)))
    (hs : ∀ x, foldedSetIterable c3.i0 X.env x = pure x) : PS X (.Assign [.Name y py] c3.e spos) (tAsg (tLc3 wi rd (own.map (·.2))) (gName i)) := by
  refine ⟨fun pins z σ G D I h => ?_⟩
  rw [exec_Assign_Name_used _ _ _ _ hsw]
  refine wpAny_bind (wpAny_standAt (wpAny_bind ?_))
  show wpAny _ X.A (do let _ ← comprehension c3.e c3.scope X.env (firstIterPos [⟨c3.t0, c3.i0, c3.f0, 0⟩, ⟨c3.t1, c3.i1, c3.f1, 0⟩, ⟨c3.t2, c3.i2, c3.f2, 0⟩] c3.pos) (newList []) false (eval c3.i0 X.env) (some (assign (.Name y py) X.env))) _ _ z
  have h : tLc3 wi rd (own.map (·.2)) σ G (fun x G1 => gName i x σ G1 D.nx) := h
  refine wpAny_bind (thn (core3 (Qf := fun _ z' => SP X pins D .next z') hc hN I hi bk hl hs h fun L C z' m G' I' q hn f => ?_) fun _ z' hq => wpAny_pure (wpAny_pure hq))
  show wpAny _ _ (assign (.Name y py) X.env (.ref L)) _ _ _
  have ⟨f0, f1, f2, f3, f4, f5⟩ := f
  refine wpAny_assign_Name (store_ok2 (v := V.ref L) I' hN hy (.inl hyl) rfl (fun z2 I2 ⟨b, sb, hb⟩ => ?_) (.inr hyl))
  have nb : C ≠ b := hb.elim (fun e => by rw [e]; exact f1) (fun k e => f4 y b k e.symm)
  exact ⟨m, hn.sameBut sb nb, fun h3 sb3 => ⟨_, G', I2.turned (t' := z2.toks) (fun b o hb e => (sb3.2 b hb).trans e) f0 f1 f3 f4 f5, q⟩⟩
end
end L3
/-! L3H: comprehensions of three clauses over data. -/
namespace L3
open PySem PySem.Spec PyProof.Rows L2
abbrev SR := Nat → List D → List S → (List D → List S → Prop) → Prop
/-- the last clause: n things stand already -/
def goZ (g : SG) (c : ST) (f : SE) (vs : List Nat) : SR
  | _, [], Γ, κ => κ [] Γ
  | n, d :: ds, Γ, κ => g d Γ fun Γ1 => c Γ1 (fun b Γ2 => if b = true then f Γ2 (fun t Γ3 => n < sizeLine ∧ goZ g c f vs (n + 1) ds (clr vs Γ3) fun ys Γ4 => κ (t.fz :: ys) Γ4) noX else goZ g c f vs n ds (clr vs Γ2) κ) noX
/-- one that hands on -/
def goA (g : SG) (c : ST) (h1 : SI) (r1 : SR) (vs vs1 : List Nat) : SR
  | _, [], Γ, κ => κ [] Γ
  | n, d :: ds, Γ, κ => g d Γ fun Γ1 => c Γ1 (fun b Γ2 => if b = true then h1 Γ2 (fun ds1 Γ3 => r1 n ds1 (clr vs1 Γ3) fun ys Γ4 => goA g c h1 r1 vs vs1 (n + ys.length) ds (clr vs Γ4) fun zs Γ5 => κ (ys ++ zs) Γ5) noX else goA g c h1 r1 vs vs1 n ds (clr vs Γ2) κ) noX
@[simp] def sComp3 (h : SI) (r : SR) (vs : List Nat) : SE := fun Γ κ Ex => h Γ (fun ds Γ1 => r 0 ds (clr vs Γ1) fun ys Γ2 => κ (.ls ys) (rst vs Γ1 Γ2)) Ex
theorem clr_idem (vs : List Nat) (Γ : List S) : clr vs (clr vs Γ) = clr vs Γ := by
  apply List.ext_getElem?
  intro i
  simp only [clr, List.getElem?_mapIdx, Option.map_map]
  cases Γ[i]? with
  | none => rfl
  | some s => simp only [Option.map_some, Function.comp]; split <;> simp_all
theorem wipe_sub {σ : Sg} {vs vs1 : List Nat} (h : ∀ i ∈ vs1, i ∈ vs) : wipe (wipe σ vs1) vs = wipe σ vs := by
  apply List.ext_getElem?
  intro j
  have e1 := wipe_get (σ := wipe σ vs1) (i := j) (vs := vs)
  have e2 := wipe_get (σ := σ) (i := j) (vs := vs)
  rw [wipe_length] at e1
  rw [e1, e2]
  by_cases c : vs.contains j = true
  · rw [if_pos c, if_pos c]
  · rw [if_neg c, if_neg c]
    have e3 := wipe_get (σ := σ) (i := j) (vs := vs1)
    rw [e3, if_neg fun k => c (by simpa using h j (by simpa using k))]
section
variable {X : Cx} {K : PySem.W.Frag} {pa : List V} {D : Addr} {f : SE} {g : SG} {c : ST} {h1 : SI} {r r1 : SR} {rd rd1 : Rd3} {vs vs1 : List Nat}
/-- the list under way -/
structure Und (K : PySem.W.Frag) (pa : List V) (D : Addr) (F0 H0 : Hp) (R0 : Nat → List Addr) (Fs : Hp) (σ : Sg) (Γ : List S) (acc : List L3.D) (H F : Hp) (R : Nat → List Addr) : Prop where
  ok : OkF K pa F H σ Γ R
  stp : Stp F0 H0 R0 F H R [D]
  res : Res K F H R (.ref D) (.ls acc) [D]
  sb : Sub Fs F
/-- the reading r keeps what rd asks -/
def RdOk (K : PySem.W.Frag) (pa : List V) (D : Addr) (vs : List Nat) (r : SR) (rd : Rd3) : Prop := ∀ (F0 H0 : Hp) (R0 : Nat → List Addr) (σ : Sg) (ds : List L3.D) (J : It) (F H : Hp) (Γ : List S) (R : Nat → List Addr) (acc : List L3.D) (Kc : List L3.D → List S → Prop) (Nx : Hp → Prop),
  H0 D = none → Und K pa D F0 H0 R0 F σ Γ acc H F R → ItD K J F ds → r acc.length ds (clr vs Γ) Kc →
  (∀ ys Γ' F' H' R', Kc ys Γ' → Und K pa D F0 H0 R0 F (wipe σ vs) Γ' (acc ++ ys) H' F' R' → Nx H') → rd J σ H Nx
theorem rdOkZ : RdOk X.K pa D vs (goZ g c f vs) (rdZ (tG X.K pa vs g) (tT X.K pa noW c) (tE X.K pa noW f) D vs) := by
  intro F0 H0 R0 σ ds J Fs H Γ R acc Kc Nx hD u it h0 kk
  refine ⟨fun i m H => m = ds.length - i ∧ i ≤ ds.length ∧ ∃ F Γ R pre, Und X.K pa D F0 H0 R0 Fs (wipe σ vs) Γ (acc ++ pre) H F R ∧ goZ g c f vs (acc ++ pre).length (ds.drop i) Γ (fun ys Γ2 => Kc (pre ++ ys) Γ2), ⟨ds.length, ?_⟩, ?_⟩
  · exact ⟨by simp, Nat.zero_le _, Fs, _, _, [], ⟨clr_ok (vs := vs) u.ok, u.stp.le offR_le, by simpa using u.res.le offR_le, .refl⟩, by simpa using h0⟩
  · rintro i m H2 ⟨rfl, hi, F2, Γ2, R2, pre, ⟨o2, s2, x2, b2⟩, h2⟩
    obtain ⟨go, stop⟩ := it i F2 H2 (wipe σ vs) Γ2 R2 pa o2 b2
    by_cases hlt : i < ds.length
    · rw [drop_get hlt] at h2
      obtain ⟨go, yld⟩ := go _ (List.getElem?_eq_getElem hlt)
      refine .inr ⟨go, fun H => ∃ F Γ R pre, Und X.K pa D F0 H0 R0 Fs (wipe σ vs) Γ (acc ++ pre) H F R ∧ goZ g c f vs (acc ++ pre).length (ds.drop (i + 1)) Γ (fun ys Γ2 => Kc (pre ++ ys) Γ2),
        fun H' hN => ⟨ds.length - (i + 1), by omega, rfl, hlt, hN⟩, fun x H3 y => ?_⟩
      obtain ⟨F3, o3, s3, rp⟩ := yld x H3 y
      refine ⟨F3, Γ2, R2, _, _, o3, rp, h2, fun Γ4 h4 σ4 R4 o4 l4 w4 => ?_⟩
      rw [wipe_idem] at w4
      have x3 := (x2.keep s3).le l4
      have s4 : Stp F0 H0 R0 F3 H3 R4 [D] := ((s2.trans s3).le l4).withR fun a ha => by
        have e : a = D := by simpa using ha
        rw [e]; exact .inl hD
      refine ⟨w4, F3, Γ4, R4, noX, _, o4, fun _ _ _ _ _ _ _ h => h.elim, h4, fun b Γ5 h5 F5 H5 R5 o5 s5 => ?_⟩
      have x5 := x3.keep s5
      have b5 : Sub Fs F5 := (b2.trans s3.sub).trans s5.sub
      cases b with
      | true =>
        dsimp only
        rw [if_pos rfl] at h5 ⊢
        refine ⟨F5, Γ5, R5, noX, _, o5, fun _ _ _ _ _ _ _ h => h.elim, h5, fun t Γ6 ⟨hn, h6⟩ v F6 H6 R6 r6 o6 s6 x6 => ?_⟩
        have s7 := x6.freezeStp s6
        have x7 := x5.keep s7
        obtain ⟨ws, e7, r7⟩ : ∃ ws, H6 D = some (.lst ws) ∧ RpAll X.K (fzH F6 H6 r6) ws (acc ++ pre) := by
          have own7 := x7.own
          cases own7 with
          | ls q1 q2 => exact ⟨_, q1, q2⟩
        have hlen : ws.length = (acc ++ pre).length := r7.length
        have r8 := r7.snoc x6.freezeRp
        have o7 := x6.freezeOk o6
        have n7F : fzH F6 H6 r6 D = none := x7.fr D (by simp)
        have n7R : ∀ i, D ∉ R6 i := fun i => x7.dj i D (by simp)
        have o8 := (clr_ok (vs := vs) o7).updX (a := D) (x := .lst (ws ++ [v])) n7F (fun i z => n7R i (offR_le i _ z))
        rw [show wipe σ4 vs = wipe σ vs from w4] at o8
        refine ⟨ws, e7, by omega, _, clr vs Γ6, offR vs R6, pre ++ [t.fz], ⟨o8, ?_, ⟨?_, fun i a ha hi => ?_, fun a ha => ?_⟩, b5.trans s7.sub⟩, ?_⟩
        · exact (((s4.trans s5).trans s7).le offR_le).updX hD
        · rw [← List.append_assoc]; exact .ls upd_same r8
        · have e : a = D := by simpa using ha
          rw [e] at hi; exact n7R i (offR_le i _ hi)
        · have e : a = D := by simpa using ha
          rw [e]; exact n7F
        · rw [← List.append_assoc, List.length_append (bs := [t.fz])]
          simpa using h6
      | false =>
        dsimp only
        rw [if_neg Bool.false_ne_true] at h5 ⊢
        have o8 := clr_ok (vs := vs) o5
        rw [show wipe σ4 vs = wipe σ vs from w4] at o8
        exact ⟨F5, clr vs Γ5, offR vs R5, pre, ⟨o8, ((s4.trans s5).le offR_le).withR fun a ha => by
            have e : a = D := by simpa using ha
            rw [e]; exact .inl hD, x5.le offR_le, b5⟩, h5⟩
    · rw [List.drop_eq_nil_of_le (by omega)] at h2
      exact .inl ⟨stop (by omega), kk _ _ _ _ _ (by simpa [goZ] using h2) ⟨o2, s2, x2, b2⟩⟩
theorem rdOkA (hv : ∀ i ∈ vs1, i ∈ vs) (k1 : RdOk X.K pa D vs1 r1 rd1) : RdOk X.K pa D vs (goA g c h1 r1 vs vs1) (rdA (tG X.K pa vs g) (tT X.K pa noW c) (tI X.K pa noW h1) rd1 vs) := by
  intro F0 H0 R0 σ ds J Fs H Γ R acc Kc Nx hD u it h0 kk
  have ind : ∀ {a}, a ∈ [D] → a = D := fun h => by simpa using h
  refine ⟨fun i m H => m = ds.length - i ∧ i ≤ ds.length ∧ ∃ F Γ R pre, Und X.K pa D F0 H0 R0 Fs (wipe σ vs) Γ (acc ++ pre) H F R ∧ goA g c h1 r1 vs vs1 (acc ++ pre).length (ds.drop i) Γ (fun ys Γ2 => Kc (pre ++ ys) Γ2), ⟨ds.length, ?_⟩, ?_⟩
  · exact ⟨by simp, Nat.zero_le _, Fs, _, _, [], ⟨clr_ok (vs := vs) u.ok, u.stp.le offR_le, by simpa using u.res.le offR_le, .refl⟩, by simpa using h0⟩
  · rintro i m H2 ⟨rfl, hi, F2, Γ2, R2, pre, ⟨o2, s2, x2, b2⟩, h2⟩
    obtain ⟨go, stop⟩ := it i F2 H2 (wipe σ vs) Γ2 R2 pa o2 b2
    by_cases hlt : i < ds.length
    · rw [drop_get hlt] at h2
      obtain ⟨go, yld⟩ := go _ (List.getElem?_eq_getElem hlt)
      refine .inr ⟨go, fun H => ∃ F Γ R pre, Und X.K pa D F0 H0 R0 Fs (wipe σ vs) Γ (acc ++ pre) H F R ∧ goA g c h1 r1 vs vs1 (acc ++ pre).length (ds.drop (i + 1)) Γ (fun ys Γ2 => Kc (pre ++ ys) Γ2),
        fun H' hN => ⟨ds.length - (i + 1), by omega, rfl, hlt, hN⟩, fun x H3 y => ?_⟩
      obtain ⟨F3, o3, s3, rp⟩ := yld x H3 y
      refine ⟨F3, Γ2, R2, _, _, o3, rp, h2, fun Γ4 h4 σ4 R4 o4 l4 w4 => ?_⟩
      rw [wipe_idem] at w4
      have x3 := (x2.keep s3).le l4
      have s4 : Stp F0 H0 R0 F3 H3 R4 [D] := ((s2.trans s3).le l4).withR fun a ha => .inl (by rw [ind ha]; exact hD)
      refine ⟨w4, F3, Γ4, R4, noX, _, o4, fun _ _ _ _ _ _ _ h => h.elim, h4, fun b Γ5 h5 F5 H5 R5 o5 s5 => ?_⟩
      have x5 := x3.keep s5
      have b5 : Sub Fs F5 := (b2.trans s3.sub).trans s5.sub
      have s6 : Stp F0 H0 R0 F5 H5 R5 [D] := (s4.trans s5).withR fun a ha => .inl (by rw [ind ha]; exact hD)
      cases b with
      | true =>
        dsimp only
        rw [if_pos rfl] at h5 ⊢
        refine ⟨F5, Γ5, R5, noX, _, o5, fun _ _ _ _ _ _ _ h => h.elim, h5, fun ds1 Γ6 h6 J1 F6 H6 R6 o6 s7 it1 => ?_⟩
        have x7 := x5.keep s7
        have s8 : Stp F0 H0 R0 F6 H6 R6 [D] := (s6.trans s7).withR fun a ha => .inl (by rw [ind ha]; exact hD)
        refine k1 F0 H0 R0 σ4 ds1 J1 F6 H6 Γ6 R6 (acc ++ pre) _ _ hD ⟨o6, s8, x7, .refl⟩ it1 h6 fun ys Γ8 F8 H8 R8 h8 u8 => ?_
        have o9 := clr_ok (vs := vs) u8.ok
        rw [wipe_sub hv, show wipe σ4 vs = wipe σ vs from w4] at o9
        refine ⟨F8, clr vs Γ8, offR vs R8, pre ++ ys, ⟨o9, u8.stp.le offR_le, by rw [← List.append_assoc]; exact u8.res.le offR_le, (b5.trans s7.sub).trans u8.sb⟩, ?_⟩
        rw [← List.append_assoc, List.length_append (bs := ys)]
        simpa using h8
      | false =>
        dsimp only
        rw [if_neg Bool.false_ne_true] at h5 ⊢
        have o8 := clr_ok (vs := vs) o5
        rw [show wipe σ4 vs = wipe σ vs from w4] at o8
        exact ⟨F5, clr vs Γ5, offR vs R5, pre, ⟨o8, s6.le offR_le, x5.le offR_le, b5⟩, h5⟩
    · rw [List.drop_eq_nil_of_le (by omega)] at h2
      exact .inl ⟨stop (by omega), kk _ _ _ _ _ (by simpa [goA] using h2) ⟨o2, s2, x2, b2⟩⟩
end
section
variable {X : Cx} {pa : List V} {f : SE} {h h1 h2 : SI} {g g1 g2 : SG} {c c1 c2 : ST} {r : SR} {rd : Addr → Rd3} {vs : List Nat} {e3 : C3} {own : List (Str × Nat)} {vs1 vs2 : List Nat}
theorem tLc3_of {W : WX} {σ : Sg} {H : Hp} {Q : VK} (hr : ∀ D, RdOk X.K pa D vs r (rd D)) (hh : tE X.K pa W (sComp3 h r vs) σ H Q) : tLc3 (tI X.K pa W h) rd vs σ H Q := by
  obtain ⟨F, Γ, R, Ex, Kc, o, xl, q, kk⟩ := hh
  refine ⟨F, Γ, R, Ex, _, o, xl, q, fun ds Γ1 h1 J F1 H1 R1 o1 s1 it => fun Dd hD => ?_⟩
  have oc := clr_ok (vs := vs) o1
  obtain ⟨o2, s2⟩ := oc.newH (x := .lst []) hD
  refine hr Dd F1 H1 R1 (wipe σ vs) ds J F1 _ (clr vs Γ1) _ [] _ _ hD ⟨o2, (Stp.refl.le offR_le).trans s2, ⟨.ls upd_same .nil, fun i a ha hi => ?_, fun a ha => ?_⟩, .refl⟩ it (by rw [clr_idem]; exact h1) fun ys Γ2 F2 H2 R2 hk u => ?_
  · have e : a = Dd := by simpa using ha
    rw [e] at hi; exact oc.hs i Dd hi hD
  · have e : a = Dd := by simpa using ha
    rw [e]; exact o1.sub.none hD
  · have o3 := u.ok
    rw [wipe_idem] at o3
    exact kk _ _ hk _ F2 H2 _ [Dd] (rst_ok o1 u.stp.sub o3) ((s1.trans u.stp).le offR_le) (by simpa using u.res.le offR_le)
/-- what the three clauses ask -/
structure C3J (X : Cx) (pa : List V) (e3 : C3) (own : List (Str × Nat)) (vs1 vs2 : List Nat) (g g1 g2 : SG) (c c1 c2 : ST) (h1 h2 : SI) (f : SE) : Prop where
  bk : BlkOk X.N X.env.scope e3.scope own
  in1 : ∀ i ∈ vs1, i ∈ own.map (·.2)
  in2 : ∀ i ∈ vs2, i ∈ vs1
  g0 : ∀ (s : Shared) (H : Hp) (C : Addr) (cl : List (Str × Addr)) (fp : List Addr), GJ (X.blk s H e3.scope (compEnvC e3.scope cl C X.env) fp) pa (own.map (·.2)) e3.t0 g
  q0 : ∀ (s : Shared) (H : Hp) (C : Addr) (cl : List (Str × Addr)) (fp : List Addr), CJ (X.blk s H e3.scope (compEnvC e3.scope cl C X.env) fp) pa e3.f0 c
  k1 : ∀ (s : Shared) (H : Hp) (C : Addr) (cl : List (Str × Addr)) (fp : List Addr), IJ (X.blk s H e3.scope (compEnvC e3.scope cl C X.env) fp) pa e3.t1 e3.i1 h1
  g1 : ∀ (s : Shared) (H : Hp) (C : Addr) (cl : List (Str × Addr)) (fp : List Addr), GJ (X.blk s H e3.scope (compEnvC e3.scope cl C X.env) fp) pa vs1 e3.t1 g1
  q1 : ∀ (s : Shared) (H : Hp) (C : Addr) (cl : List (Str × Addr)) (fp : List Addr), CJ (X.blk s H e3.scope (compEnvC e3.scope cl C X.env) fp) pa e3.f1 c1
  k2 : ∀ (s : Shared) (H : Hp) (C : Addr) (cl : List (Str × Addr)) (fp : List Addr), IJ (X.blk s H e3.scope (compEnvC e3.scope cl C X.env) fp) pa e3.t2 e3.i2 h2
  g2 : ∀ (s : Shared) (H : Hp) (C : Addr) (cl : List (Str × Addr)) (fp : List Addr), GJ (X.blk s H e3.scope (compEnvC e3.scope cl C X.env) fp) pa vs2 e3.t2 g2
  q2 : ∀ (s : Shared) (H : Hp) (C : Addr) (cl : List (Str × Addr)) (fp : List Addr), CJ (X.blk s H e3.scope (compEnvC e3.scope cl C X.env) fp) pa e3.f2 c2
  el : ∀ (s : Shared) (H : Hp) (C : Addr) (cl : List (Str × Addr)) (fp : List Addr), EJ (X.blk s H e3.scope (compEnvC e3.scope cl C X.env) fp) pa e3.elt f
  s0 : ∀ x, foldedSetIterable e3.i0 X.env x = pure x
  s1 : ∀ env x, foldedSetIterable e3.i1 env x = pure x
  s2 : ∀ env x, foldedSetIterable e3.i2 env x = pure x
def rd3 (K : PySem.W.Frag) (pa : List V) (own : List (Str × Nat)) (vs1 vs2 : List Nat) (g g1 g2 : SG) (c c1 c2 : ST) (h1 h2 : SI) (f : SE) (D : Addr) : Rd3 :=
  rdA (tG K pa (own.map (·.2)) g) (tT K pa noW c) (tI K pa noW h1) (rdA (tG K pa vs1 g1) (tT K pa noW c1) (tI K pa noW h2) (rdZ (tG K pa vs2 g2) (tT K pa noW c2) (tE K pa noW f) D vs2) vs1) (own.map (·.2))
def sr3 (own : List (Str × Nat)) (vs1 vs2 : List Nat) (g g1 g2 : SG) (c c1 c2 : ST) (h1 h2 : SI) (f : SE) : SR := goA g c h1 (goA g1 c1 h2 (goZ g2 c2 f vs2) vs1 vs2) (own.map (·.2)) vs1
theorem C3J.rdOk (j : C3J X pa e3 own vs1 vs2 g g1 g2 c c1 c2 h1 h2 f) (D : Addr) : RdOk X.K pa D (own.map (·.2)) (sr3 own vs1 vs2 g g1 g2 c c1 c2 h1 h2 f) (rd3 X.K pa own vs1 vs2 g g1 g2 c c1 c2 h1 h2 f D) := rdOkA j.in1 (rdOkA j.in2 rdOkZ)
theorem C3J.loop (hc : X.calm = true) (j : C3J X pa e3 own vs1 vs2 g g1 g2 c c1 c2 h1 h2 f) : ∀ (z : Shared) (G' : Hp) (C : Addr) (cl : List (Str × Addr)) (fp : List Addr) (D : Addr), LoopOk (X.blk z G' e3.scope (compEnvC e3.scope cl C X.env) fp) e3.e 0 D e3.t0 (rd3 X.K pa own vs1 vs2 g g1 g2 c c1 c2 h1 h2 f D) (own.map (·.2)) := fun z G C cl fp D =>
  loopOkA (.inl rfl) (turn3_0 e3) hc (j.s1 _) j.in1 (j.g0 ..).run (j.q0 ..).run ((j.k1 ..).run noW takesNo)
    (loopOkA (.inr rfl) (turn3_1 e3) hc (j.s2 _) j.in2 (j.g1 ..).run (j.q1 ..).run ((j.k2 ..).run noW takesNo)
      (loopOkZ (turn3_2 e3) hc (j.g2 ..).run (j.q2 ..).run ((j.el ..).run noW takesNo)))
theorem ej_comp3 (hc : X.calm = true) (hN : X.N.Nodup) (hi : IJ X pa e3.t0 e3.i0 h) (j : C3J X pa e3 own vs1 vs2 g g1 g2 c c1 c2 h1 h2 f) :
    EJ X pa e3.e (sComp3 h (sr3 own vs1 vs2 g g1 g2 c c1 c2 h1 h2 f) (own.map (·.2))) := ⟨fun W tk =>
  PE.imp (pe_lc3 hc hN (hi.run W tk) j.bk (j.loop hc) j.s0) fun σ H Q h => tLc3_of j.rdOk h⟩
theorem sj_setComp3 {i : Nat} {y : Str} {py spos : Pos} {z : SS} (hc : X.calm = true) (hN : X.N.Nodup) (hy : X.N[i]? = some y) (hyl : X.env.scope.names.lookup y = some .local)
    (hsw : swapsWith e3.e (some (.Name y py)) spos.line X.env = pure true) (hi : IJ X pa e3.t0 e3.i0 h) (j : C3J X pa e3 own vs1 vs2 g g1 g2 c c1 c2 h1 h2 f)
    (hz : (z = zAsg (sComp3 h (sr3 own vs1 vs2 g g1 g2 c c1 c2 h1 h2 f) (own.map (·.2))) (gN i)) ∨ (z = zOwn i (sComp3 h (sr3 own vs1 vs2 g g1 g2 c c1 c2 h1 h2 f) (own.map (·.2))))) :
    SJ X pa (.Assign [.Name y py] e3.e spos) z := ⟨fun W tk =>
  PS.imp (ps_setLc3 hc hN hy hyl hsw (hi.run W tk) j.bk (j.loop hc) j.s0) fun D σ H hh => by
    obtain ⟨F, Γ, R, Ex, k, o, xl, q, n, _⟩ := hh
    refine tLc3_of (W := W) (Q := fun x H1 => D.nx (σ.set i (some x)) H1) j.rdOk (h := h) ?_
    rcases hz with rfl | rfl
    · exact ⟨F, Γ, R, Ex, _, o, xl σ, q, fun t Γ' h1 v F' H' R' r o' s' x' => n _ h1 _ _ H' _ ((x'.freezeOk o').setV x'.freezeRp) ((x'.freezeStp s').le fun j a h => by
        by_cases hj : j = i
        · rw [if_pos hj] at h; cases h
        · rw [if_neg hj] at h; exact h)⟩
    · exact ⟨F, Γ, R, Ex, _, o, xl σ, q, fun t Γ' h1 v F' H' R' r o' s' x' => n _ h1 _ F' H' _ (o'.setO x') s'.setO⟩⟩
end
end L3
namespace L3
open PySem PySem.Spec PyProof.Rows L2
/-! what many of the texts share: drawing, bounds of data -/
theorem eqD_int {i j : Int} : eqD (.int i) (.int j) = decide (i = j) := by
  simp [eqD, D.py, PyData.eqv]
  by_cases h : i = j <;> simp [h]
theorem okEq_int {i j : Int} : okEq (.int i) (.int j) := by simp [okEq, D.pl, D.dep]
/-! what the program's judges answer, as functions of data -/
def isInt : D → Bool
  | .int _ => true
  | _ => false
def isW (a b : Int) : D → Bool
  | .int i => decide (a ≤ i) && decide (i ≤ b)
  | _ => false
def isIt : D → Bool
  | .non => true
  | d => isW 0 1000000 d
def isP : D → Bool
  | .tup [.int b, .tup vs, .bl _] => decide (0 ≤ b) && decide (1 ≤ vs.length) && decide ((vs.length : Int) ≤ 5000 - b) && vs.all isIt
  | _ => false
def isR : D → Bool
  | .tup ps => decide (ps.length ≤ 2000) && ps.all isP
  | _ => false
/-- a value: no object within -/
theorem sm_tn {d : D} (h : d.sm = true) : ∃ t, d.tn = some t := by
  cases d <;> first | exact ⟨_, rfl⟩ | simp [D.sm] at h
def c_is_integer : SE := fun Γ κ _ => match Γ with | [.v d] => d.sm = true ∧ κ (.leaf (.bl (isInt d))) Γ | _ => False
def c_is_within : SE := fun Γ κ _ => match Γ with | [.v d, .v (.int a), .v (.int b)] => d.sm = true ∧ κ (.leaf (.bl (isW a b d))) Γ | _ => False
theorem sms_mem : ∀ {xs : List D}, sms xs = true → ∀ x ∈ xs, x.sm = true
  | y :: ys, h, x, hx => by
    have h' : y.sm = true ∧ sms ys = true := by simpa [sms] using h
    rcases List.mem_cons.mp hx with rfl | hx
    · exact h'.1
    · exact sms_mem h'.2 x hx
theorem fm_some {α β : Type} {f : α → β} {l : List α} : (l.filterMap fun x => some (f x)) = l.map f := congrFun (List.filterMap_eq_map' (f := f)) l
structure IsDeck (m : Nat) (t : O) : Prop where
  ex : ∃ (big cells : List Int) (cur : Int), t = .ll [.ls (big.map .int), .ls (cells.map .int), .leaf (.int cur)] ∧ (∀ x ∈ big, 0 ≤ x) ∧ cells ≠ [] ∧ cells.length ≤ 1000 ∧ (∀ x ∈ cells, 0 ≤ x) ∧ 0 ≤ cur ∧ cur ≤ m
def c__law_deck : SE := fun Γ κ _ => match Γ with | [.v (.scr ns)] => ns.length ≤ 63 ∧ ∀ t, IsDeck 0 t → κ t Γ | _ => False
def c__law_draw : SE := fun Γ κ _ => match Γ with | [.o (some 0) t, .v (.int below)] => (∃ m, IsDeck m t ∧ m < 2 ^ 40 ∧ 0 < below ∧ below < 2 ^ 40 ∧ ∀ r t', 0 ≤ r → r < below → IsDeck (m + 1) t' → κ (.leaf (.int r)) [.o (some 0) t', .v (.int below)]) | _ => False
abbrev deckT (big cells : List Int) (cur : Int) : O := .ll [.ls (big.map .int), .ls (cells.map .int), .leaf (.int cur)]
theorem pls_ints : ∀ xs : List Int, pls (xs.map D.int) = true
  | [] => rfl
  | x :: xs => by rw [List.map_cons, pls, pls_ints xs]; rfl
theorem cmul_small {i j : Int} (hi : i.natAbs < 2 ^ 100) (hj : j.natAbs < 2 ^ 100) : CMulW i j := by
  have b : ∀ n : Nat, n < 2 ^ 100 → n.log2 ≤ 100 := fun n h => by
    by_cases z : n = 0
    · subst z; decide
    · exact Nat.le_of_lt ((Nat.log2_lt z).mpr h)
  have h1 := b _ hi
  have h2 := b _ hj
  unfold CMulW
  omega
theorem cdiv_small {i j : Int} (h0 : 0 < j) (hj : j < 2 ^ 40) : CDivW i j := by
  refine ⟨h0, ?_⟩
  have : j.natAbs < 2 ^ 40 := by omega
  have := (Nat.log2_lt (by omega : j.natAbs ≠ 0)).mpr this
  omega
theorem eqD_str {x : Str} : eqD (.str x) (.str x) = true := by
  simp [eqD, D.py, PyData.eqv]
def c__law_same : SE := fun Γ κ _ => ∃ d, Γ = [.v d, .v d] ∧ okRepr d ∧ κ (.leaf (.bl true)) Γ
/-! the greatest int within -/
mutual
def D.im : D → Nat
  | .int i => i.natAbs
  | .tup xs | .lst xs => ims xs
  | .dic kvs => imk kvs
  | _ => 0
def ims : List D → Nat
  | [] => 0
  | x :: xs => max x.im (ims xs)
def imk : List (Key × D) → Nat
  | [] => 0
  | (_, x) :: xs => max x.im (imk xs)
end
theorem ims_le {k : Nat} : ∀ {xs : List D}, (∀ x ∈ xs, x.im ≤ k) → ims xs ≤ k
  | [], _ => Nat.zero_le _
  | x :: xs, h => by
    rw [ims]
    exact Nat.max_le.mpr ⟨h x List.mem_cons_self, ims_le fun y hy => h y (List.mem_cons_of_mem _ hy)⟩
/-- a draw -/
theorem draw_call {Γ : List S} {κ : O → List S → Prop} {Ex : Xk} {i m : Nat} {q : Option Nat} {t : O} {n : Int} (hi : Γ[i]? = some (.o q t)) (dk : IsDeck m t) (hm : m < 2 ^ 40) (h0 : 0 < n) (h1 : n < 2 ^ 40)
    (h : ∀ r t', 0 ≤ r → r < n → IsDeck (m + 1) t' → κ (.leaf (.int r)) (Γ.set i (.o q t'))) : sCallN 2 c__law_draw (aCons (aV i) (aCons (aE (sC (.int n))) aNil)) Γ κ Ex := by
  refine ⟨⟨_, hi, by simp⟩, rfl, ?_⟩
  show argL Γ [.slot i, .val (.int n)] 0 [.slot i, .val (.int n)] _
  unfold argL
  rw [hi]
  have j0 : jOf [.slot i, .val (.int n)] i = some 0 := by rw [jOf_slot, if_pos rfl]
  have jn : ∀ k, k ≠ i → jOf [.slot i, .val (.int n)] k = none := fun k hk => by rw [jOf_slot, if_neg (Ne.symm hk), jOf_val, jOf_nil]; rfl
  refine ⟨j0, m, dk, hm, h0, h1, fun r t' r0 r1 dk' => ⟨trivial, ?_⟩⟩
  show κ (.leaf (.int r)) (wb [.slot i, .val (.int n)] [.o (some 0) t', .v (.int n)] Γ)
  rw [wb_one hi j0 jn (q' := some 0) (t' := t') rfl]
  exact h r t' r0 r1 dk'
theorem deck_call {Γ : List S} {κ : O → List S → Prop} {Ex : Xk} {i : Nat} {ns : List Int} (hi : Γ[i]? = some (.v (.scr ns))) (hl : ns.length ≤ 63) (h : ∀ t, IsDeck 0 t → κ t Γ) : sCallN 1 c__law_deck (aCons (aV i) aNil) Γ κ Ex := by
  refine ⟨⟨_, hi, by simp⟩, rfl, ?_⟩
  show argL Γ [.slot i] 0 [.slot i] _
  unfold argL
  rw [hi]
  refine ⟨hl, fun t dk => ⟨trivial, ?_⟩⟩
  show κ t (wb [.slot i] [.v (.scr ns)] Γ)
  have e : wb [.slot i] [.v (.scr ns)] Γ = Γ := by
    apply List.ext_getElem?
    intro k
    rw [wb_get]
    cases hk : Γ[k]? with
    | none => rfl
    | some s =>
      show some (wbS [.slot i] [.v (.scr ns)] k s) = some s
      unfold wbS
      by_cases e : k = i
      · subst e
        rw [hi] at hk
        cases hk
        rfl
      · rw [jOf_slot, if_neg (Ne.symm e), jOf_nil]
        cases s <;> rfl
  rw [e]
  exact h t dk
theorem IsDeck.mono {m n : Nat} {t : O} (h : IsDeck m t) (l : m ≤ n) : IsDeck n t := by
  obtain ⟨big, cells, cur, h1, h2, h3, h4, h5, h6, h7⟩ := h
  exact ⟨big, cells, cur, h1, h2, h3, h4, h5, h6, by omega⟩
/-- a draw below what an expression is worth -/
theorem draw_e {Γ : List S} {κ : O → List S → Prop} {Ex : Xk} {fe : SE} {i m : Nat} {q : Option Nat} {t : O} {n : Int} (hi : Γ[i]? = some (.o q t)) (hfe : ∀ κ Ex, κ (.leaf (.int n)) Γ → fe Γ κ Ex) (dk : IsDeck m t) (hm : m < 2 ^ 40) (h0 : 0 < n) (h1 : n < 2 ^ 40)
    (h : ∀ r t', 0 ≤ r → r < n → IsDeck (m + 1) t' → κ (.leaf (.int r)) (Γ.set i (.o q t'))) : sCallN 2 c__law_draw (aCons (aV i) (aCons (aE fe) aNil)) Γ κ Ex := by
  refine ⟨⟨_, hi, by simp⟩, hfe _ _ ?_⟩
  have := draw_call (κ := κ) (Ex := Ex) hi dk hm h0 h1 h
  exact this.2
/-- a short value -/
def Vl (k w : Nat) (d : D) : Prop := d.sm = true ∧ d.dep ≤ k ∧ d.wt ≤ w
theorem pick_int {l : List Int} {r : Int} (h0 : 0 ≤ r) (h1 : r < l.length) : ∃ i, atI (l.map D.int) r = some (.int i) ∧ i ∈ l := by
  have hk : r.toNat < l.length := by omega
  have e : r = (r.toNat : Int) := by omega
  refine ⟨l[r.toNat], ?_, List.getElem_mem hk⟩
  have e2 := (atI_lt (l := l.map D.int) (k := r.toNat) (by rw [List.length_map]; exact hk)).trans (by rw [List.getElem_map])
  rw [← e] at e2
  exact e2
theorem pick_all {l : List D} {r : Int} (h0 : 0 ≤ r) (h1 : r < l.length) : ∃ d, atI l r = some d ∧ d ∈ l := by
  have hk : r.toNat < l.length := by omega
  have e : r = (r.toNat : Int) := by omega
  have e2 := atI_lt (l := l) (k := r.toNat) hk
  rw [← e] at e2
  exact ⟨_, e2, List.getElem_mem hk⟩
theorem ims_mem : ∀ {xs : List D} {x : D}, x ∈ xs → x.im ≤ ims xs
  | y :: ys, x, hx => by
    rw [ims]
    rcases List.mem_cons.mp hx with rfl | hx
    · exact Nat.le_max_left _ _
    · exact Nat.le_trans (ims_mem hx) (Nat.le_max_right _ _)
theorem deps_mem : ∀ {xs : List D} {x : D}, x ∈ xs → x.dep ≤ deps xs
  | y :: ys, x, hx => by
    rw [deps]
    rcases List.mem_cons.mp hx with rfl | hx
    · exact Nat.le_max_left _ _
    · exact Nat.le_trans (deps_mem hx) (Nat.le_max_right _ _)
theorem wts_app : ∀ {xs ys : List D}, wts (xs ++ ys) = wts xs + wts ys
  | [], ys => by simp [wts]
  | x :: xs, ys => by
    rw [List.cons_append, wts, wts, wts_app]
    omega
theorem wts_take {n : Nat} {xs : List D} : wts (xs.take n) ≤ wts xs := by
  have := wts_app (xs := xs.take n) (ys := xs.drop n)
  rw [List.take_append_drop] at this
  omega
theorem wts_drop {n : Nat} {xs : List D} : wts (xs.drop n) ≤ wts xs := by
  have := wts_app (xs := xs.take n) (ys := xs.drop n)
  rw [List.take_append_drop] at this
  omega
theorem wts_rev : ∀ {xs : List D}, wts xs.reverse = wts xs
  | [] => rfl
  | x :: xs => by
    rw [List.reverse_cons, wts_app, wts_rev, wts, wts, wts]
    omega
theorem wts_len : ∀ {xs : List D}, 2 * xs.length ≤ wts xs
  | [] => Nat.zero_le _
  | x :: xs => by
    have := wts_len (xs := xs)
    rw [wts, List.length_cons]
    omega
theorem cut_to {xs : List D} {k : Int} (h0 : 0 ≤ k) : cut xs none (some k) = xs.take k.toNat := by
  obtain ⟨n, rfl⟩ : ∃ n : Nat, k = n := ⟨k.toNat, by omega⟩
  unfold cut
  rw [HT.sIx_none, HT.sIx_nat, List.drop_zero, Nat.sub_zero, Int.toNat_natCast]
  by_cases h : n ≤ xs.length
  · rw [Nat.min_eq_left h]
  · rw [Nat.min_eq_right (by omega), List.take_length, List.take_of_length_le (by omega)]
theorem cut_from {xs : List D} {k : Int} (h0 : 0 ≤ k) : cut xs (some k) none = xs.drop k.toNat := by
  obtain ⟨n, rfl⟩ : ∃ n : Nat, k = n := ⟨k.toNat, by omega⟩
  unfold cut
  rw [HT.sIx_none, HT.sIx_nat, Int.toNat_natCast]
  by_cases h : n ≤ xs.length
  · rw [Nat.min_eq_left h]
    exact List.take_of_length_le (by rw [List.length_drop]; omega)
  · rw [Nat.min_eq_right (by omega), Nat.sub_self, List.take_zero, List.drop_of_length_le (by omega)]
/-- a value of a bounded size -/
structure Bd (k w c : Nat) (d : D) : Prop where
  sm : d.sm = true
  dep : d.dep ≤ k
  wt : d.wt ≤ w
  im : d.im ≤ c
theorem Bd.tup {k w c : Nat} {xs : List D} (h : ∀ x ∈ xs, x.sm = true ∧ x.dep ≤ k ∧ x.im ≤ c) (hw : wts xs + 3 ≤ w) : Bd (k + 1) w c (.tup xs) :=
  ⟨by rw [D.sm]; exact sms_of fun x hx => (h x hx).1, by rw [D.dep]; exact Nat.succ_le_succ (deps_le fun x hx => (h x hx).2.1), by rw [D.wt]; exact hw, by rw [D.im]; exact ims_le fun x hx => (h x hx).2.2⟩
theorem Bd.lst {k w c : Nat} {xs : List D} (h : ∀ x ∈ xs, x.sm = true ∧ x.dep ≤ k ∧ x.im ≤ c) (hw : wts xs + 3 ≤ w) : Bd (k + 1) w c (.lst xs) :=
  ⟨by rw [D.sm]; exact sms_of fun x hx => (h x hx).1, by rw [D.dep]; exact Nat.succ_le_succ (deps_le fun x hx => (h x hx).2.1), by rw [D.wt]; exact hw, by rw [D.im]; exact ims_le fun x hx => (h x hx).2.2⟩
theorem ofs_all (s : String) : ((Str.ofString s).cps.toList.all fun c => decide (c < 16 ^ 8)) = true := by
  refine List.all_eq_true.mpr fun c hc => ?_
  rw [Str.ofString_eq_toList] at hc
  simp at hc
  obtain ⟨x, _, rfl⟩ := hc
  refine decide_eq_true ?_
  exact x.val.toNat_lt
theorem smS_int {i : Int} (h : i.natAbs < 10 ^ 60) : smS (Str.ofString (toString i)) = true := by
  unfold smS
  rw [ofs_all, decide_eq_true (Nat.le_trans (int_len h) (by decide))]
  rfl
theorem Bd.odd {k w c : Nat} {d : D} (v : Vl 2 1000 d) (hi : d.im ≤ 10 ^ 59) (hc : 10 ^ 59 ≤ c) : Bd (k + 2) (2 * w + 2000) (c + 1) d :=
  ⟨v.1, Nat.le_trans v.2.1 (by omega), Nat.le_trans v.2.2 (by omega), by omega⟩
theorem Bd.small {k w c : Nat} {d : D} (h : d.sm = true) (h1 : d.dep = 0) (h2 : d.wt ≤ 1000) (h3 : d.im ≤ 1) : Bd (k + 2) (2 * w + 2000) (c + 1) d :=
  ⟨h, by omega, by omega, by omega⟩
theorem reps_bd {n k w : Nat} {x : D} (hx : x.sm = true) (hk : x.dep ≤ k) (hw : x.wt ≤ w) : sms (reps n [x]) = true ∧ deps (reps n [x]) ≤ k ∧ wts (reps n [x]) ≤ (w + 2) * n := by
  rw [reps_one]
  refine ⟨sms_of fun y hy => ?_, deps_le fun y hy => ?_, ?_⟩
  · rw [(List.mem_replicate.mp hy).2]; exact hx
  · rw [(List.mem_replicate.mp hy).2]; exact hk
  · have := wts_le (k := w) (xs := List.replicate n x) fun y hy => by rw [(List.mem_replicate.mp hy).2]; exact hw
    rwa [List.length_replicate] at this

end L3
namespace L3
open PySem PySem.Spec PyProof.Rows L2
theorem enum_get {c : Int} {ds : List D} {i : Nat} {d : D} (h : (enum c ds)[i]? = some d) : ∃ hi : i < ds.length, d = .tup [.int (c + (i : Nat)), ds[i]] := by
  unfold enum at h
  rw [List.getElem?_map] at h
  cases e : (List.range ds.length)[i]? with
  | none => rw [e] at h; cases h
  | some j =>
    rw [e] at h
    have hi : i < ds.length := by simpa using (List.getElem?_eq_some_iff.mp e).1
    have ej : i = j := by
      have := (List.getElem?_eq_some_iff.mp e).2
      simpa using this
    subst ej
    refine ⟨hi, ?_⟩
    have h' : D.tup [D.int (c + (i : Nat)), ds.getD i .non] = d := by simpa using h
    rw [← h', List.getD_eq_getElem?_getD, List.getElem?_eq_getElem hi]
    rfl
theorem enum_len {c : Int} {ds : List D} : (enum c ds).length = ds.length := by simp [enum]
theorem find_some {α : Type} {p : α → Bool} {xs : List α} {i : Nat} (hi : i < xs.length) (h : p xs[i] = true) (b : ∀ j e, j < i → xs[j]? = some e → p e = false) : xs.findIdx? p = some i := by
  rw [List.findIdx?_eq_some_iff_getElem]
  exact ⟨hi, h, fun j hj => by rw [b j _ hj (List.getElem?_eq_getElem (by omega))]; simp⟩
theorem find_none {α : Type} {p : α → Bool} {xs : List α} (b : ∀ j e, j < xs.length → xs[j]? = some e → p e = false) : xs.findIdx? p = none := by
  rw [List.findIdx?_eq_none_iff]
  intro x hx
  obtain ⟨j, hj, e⟩ := List.getElem_of_mem hx
  have := b j x hj (by rw [List.getElem?_eq_getElem hj, e])
  rw [this]
end L3
namespace L3
open PySem PySem.Spec PyProof.Rows L2
/-- a draw below what a name holds -/
theorem draw_call2 {Γ : List S} {κ : O → List S → Prop} {Ex : Xk} {i j m : Nat} {q : Option Nat} {t : O} {n : Int} (hi : Γ[i]? = some (.o q t)) (hj : Γ[j]? = some (.v (.int n))) (dk : IsDeck m t) (hm : m < 2 ^ 40) (h0 : 0 < n) (h1 : n < 2 ^ 40)
    (h : ∀ r t', 0 ≤ r → r < n → IsDeck (m + 1) t' → κ (.leaf (.int r)) (Γ.set i (.o q t'))) : sCallN 2 c__law_draw (aCons (aV i) (aCons (aV j) aNil)) Γ κ Ex :=
  callD (as := [.slot j]) (ds := [.int n]) hi (fun κ h => ⟨⟨_, hi, by simp⟩, ⟨_, hj, by simp⟩, h⟩) ⟨hj, trivial⟩ rfl fun K E hK hE => ⟨m, dk, hm, h0, h1, fun r t' r0 r1 dk' => hK _ _ (h r t' r0 r1 dk')⟩
end L3
/-! L3T: a module's dict of defs; a call of a def that a name holds. -/
namespace L3
open PySem PySem.Spec PyProof.Rows L2
section
variable {X : Cx} {pa : List V} {pos p : Pos} {e : Expr} {es : List Expr} {x : Str} {i n k : Nat} {gs : SAs} {f : Addr} {fd : FuncData} {ps : List Str} {sp : Sp} {E : L2.St → XK} {t : TA}
theorem pe_callVarG (G : FnG X.prog X.w X.K X.mg X.base k f fd ps sp) (room : Room k X.A) (gd : X.A.guards = some []) (hp : PE X (.Name x p) (tVar i)) (hk : PySem.W.keepIn X.K (.ref f) = true) (hb : L2.Binds X.K fd ps [])
    (hx : ∀ σ, PassesAt (L2.CX X.prog X.w) X σ (E σ)) (ha : PA X (e :: es) t)
    (he : starEach (e :: es) X.env = (false, eval e X.env) :: starEach es X.env := by rfl) (hpl : (backTo pos (starEach es X.env)).any (·.1) = false := by rfl) :
    PE X (.Call (.Name x p) (e :: es) [] pos) (fun σ H Q => σ[i]? = some (some (.ref f)) ∧ t σ H fun vs H1 => sp vs H1 Q (E σ)) := by
  refine ⟨fun pins s σ H Q I ⟨hs, h⟩ => ?_⟩
  refine wpAny_Call_Name_kw (thn (hp.run pins s σ H (fun v H1 => v = .ref f ∧ H1 = H) I ⟨.ref f, hs, rfl, rfl⟩) fun u s1 ⟨v, H1, I1, r1, ev, eH⟩ => ?_)
  subst ev
  rw [eH] at I1
  cases r1
  refine PySem.W.callWith_K (h₀ := X.base) I.ok.mod.kin hk (thn (ha.run pos pins s1 σ H _ I1 h) ?_) he hpl
  rintro us s2 ⟨vs, H2, I2, r, q⟩
  refine ⟨I2.kIn, wpAny_call (codeAny_mono (G.run X.A X.stack s2 H2 ⟨us, []⟩ us vs Q (E σ) room gd I2.env0 ?_ r q) ?_)⟩
  · have hl : (us ++ ([] : List Value)).length = ps.length := by rw [List.append_nil, ← r.length]; exact G.len _ _ _ _ q
    have := hb s2 us I2.kIn hl
    rwa [List.append_nil] at this
  · intro r s' hq
    match r, hq with
    | .error e, hq => exact hx σ pins H2 s2 e s' I2 hq
    | .ok (.ret u), hq => exact I2.after hq
    | .ok .next, hq => exact hq.elim
    | .ok .brk, hq => exact hq.elim
    | .ok .cont, hq => exact hq.elim
theorem PE.exIf {α : Type} {a : Expr} {q : α → Prop} {t : α → TE} (h : ∀ z, q z → PE X a (t z)) : PE X a (fun σ H Q => ∃ z, q z ∧ t z σ H Q) := ⟨fun pins s σ H Q I ⟨z, hz, w⟩ => (h z hz).run pins s σ H Q I w⟩
/-- what stands behind each of the names zs keeps its promise -/
def Held (P : Program) (w : World) (K : PySem.W.Frag) (mg : Str → Option Value) (base : Heap) (k n : Nat) (zs : List Str) (cs : Str → SE) : Prop := ∀ z ∈ zs, ∃ f fd ps, PySem.W.nsIn K mainGlobals z = some (some (.ref f)) ∧ FnG P w K mg base k f fd ps (spF K n (cs z)) ∧ PySem.W.keepIn K (.ref f) = true ∧ L2.Binds K fd ps []
def sCallVar (zs : List Str) (cs : Str → SE) (i n : Nat) (gs : SAs) : SE := fun Γ κ Ex => ∃ z, z ∈ zs ∧ Γ[i]? = some (.v (.fn z)) ∧ sCallN n (cs z) gs Γ κ Ex
theorem ej_callVar {zs : List Str} {cs : Str → SE} (hd : Held X.prog X.w X.K X.mg X.base k n zs cs) (room : Room k X.A) (gd : X.A.guards = some []) (hp : PE X (.Name x p) (tVar i)) (ha : AsJ X pa (e :: es) gs)
    (he : starEach (e :: es) X.env = (false, eval e X.env) :: starEach es X.env := by rfl) (hpl : (backTo pos (starEach es X.env)).any (·.1) = false := by rfl) :
    EJ X pa (.Call (.Name x p) (e :: es) [] pos) (sCallVar zs cs i n gs) := ⟨fun W tk => by
  refine PE.imp (PE.exIf (q := fun z => z ∈ zs) (t := fun z σ H Q => ∃ f, PySem.W.nsIn X.K mainGlobals z = some (some (.ref f)) ∧ σ[i]? = some (some (.ref f)) ∧ tAs X.K pa W gs σ H fun vs H1 => spF X.K n (cs z) vs H1 Q (fun cls d H' => W cls d σ H')) fun z hz => ?_) fun σ H Q h => ?_
  · obtain ⟨f, fd, ps, e1, G, hk, hb⟩ := hd z hz
    refine PE.imp (pe_callVarG G room gd hp hk hb (fun σ => passAt tk σ) (ha.run W tk) he hpl) fun σ H Q ⟨f', e2, h1, h2⟩ => ?_
    rw [e1] at e2
    cases e2
    exact ⟨h1, h2⟩
  · obtain ⟨F, Γ, R, Ex, Kc, o, xl, ⟨z, hz, hi, q⟩, kk⟩ := h
    obtain ⟨_, v, e', rp⟩ := o.sl i _ hi
    cases rp with
    | fn e1 =>
      refine ⟨z, hz, _, e1, e', ?_⟩
      have h' := spF_of (n := n) (W := W) (gs := fun Γ κ Ex => gs Γ (fun as Γ' => as.length = n ∧ κ as Γ') Ex) (fc := cs z) ⟨F, Γ, R, Ex, Kc, o, xl, q, kk⟩
      obtain ⟨F, Γ, R, Ex, Kc, o, xl, q, kk⟩ := h'
      exact ⟨F, Γ, R, Ex, _, o, xl, q, fun as Γ' ⟨hl, h1⟩ vs F' H' R' o' s' a' => kk as Γ' h1 vs F' H' R' o' s' a' (by rw [a'.length]; exact hl)⟩⟩
/-- a module's dict from text to defs -/
structure DctP (K : PySem.W.Frag) (w : World) (d : Addr) (kns : List (Str × Str)) : Prop where
  kd : ∃ es n, KDict K w d es n
  vals : ∀ z y, kns.lookup z = some y → ∃ f, PySem.W.nsIn K d z = some (some (.ref f)) ∧ PySem.W.nsIn K mainGlobals y = some (some (.ref f))
structure DctG (K : PySem.W.Frag) (mg : Str → Option Value) (w : World) (x : Str) (kns : List (Str × Str)) : Type where
  d : Addr
  M : mg x = some (.ref d)
  P : DctP K w d kns
theorem ej_globD {d : Addr} (hg : Gl X x) (hm : X.mg x = some (.ref d)) (hd : (x == ("__debug__" : Str)) = false := by decide) : EJ X pa (.Name x pos) (sC (.ref d)) := ej_c (pe_glob hg hm (v := .ref d) rfl hd) fun _ => .ref d
section
variable {kns : List (Str × Str)} {d : Addr}
def kNotG (d : Addr) (kns : List (Str × Str)) : K2 := fun a b P => match a, b with
  | .str z, .ref d' => d' = d ∧ (∃ y, kns.lookup z = some y) ∧ P (.leaf (.bl false))
  | _, _ => False
def kItG (d : Addr) (kns : List (Str × Str)) : K2 := fun a b P => match a, b with
  | .ref d', .str z => d' = d ∧ ∃ y, kns.lookup z = some y ∧ P (.leaf (.fn y))
  | _, _ => False
def rNotG (K : PySem.W.Frag) (d : Addr) : R2 := fun x y H Q => ∃ (z : Str) (r : Option Value), x = .str z ∧ y = .ref d ∧ PySem.W.nsIn K d z = some r ∧ Q (.bl (!r.isSome)) H
theorem op_notG (h : DctP X.K X.w d kns) : OpR X (compareOp .NotIn) (rNotG X.K d) := by
  obtain ⟨es, n, D⟩ := h.kd
  exact op_notIn_kd D
theorem k_notG (h : DctP X.K X.w d kns) : Op2 X pa (rNotG X.K d) (kNotG d kns) := by
  intro F H σ Γ R x y a b P Q o ba bb hh fin
  unfold kNotG at hh
  split at hh
  · obtain ⟨e, ⟨y, ey⟩, hh⟩ := hh
    subst e
    obtain ⟨f, e1, e2⟩ := h.vals _ _ ey
    cases ba with
    | rp q =>
      cases q
      cases bb with
      | rp q =>
        cases q
        exact ⟨_, _, rfl, rfl, e1, fin _ _ (fin_leaf o (.bl _) hh)⟩
  · exact hh.elim
theorem k_itG (h : DctP X.K X.w d kns) : Op2 X pa (rIxD X.K X.w) (kItG d kns) := by
  intro F H σ Γ R x y a b P Q o ba bb hh fin
  unfold kItG at hh
  split at hh
  · obtain ⟨e, y, ey, hh⟩ := hh
    subst e
    obtain ⟨f, e1, e2⟩ := h.vals _ _ ey
    obtain ⟨es, n, D⟩ := h.kd
    cases ba with
    | rp q =>
      cases q
      cases bb with
      | rp q =>
        cases q
        exact ⟨_, _, V.ref f, rfl, rfl, ⟨es, n, _, D.at_, D.lit, e1, rfl⟩, fin _ _ (fin_leaf o (.fn e2) hh)⟩
  · exact hh.elim
theorem ej_notG {a b : Expr} {ga gb : SA} (h : DctP X.K X.w d kns) (ha : AJ X pa a ga) (hb : AJ X pa b gb) (hm : behindInMarks .NotIn b = false) : EJ X pa (.Compare a [.NotIn] [b] pos) (s2 ga gb (kNotG d kns)) := ej_cmp (op_notG h) (k_notG h) ha hb hm
theorem tj_notG {a b : Expr} {ga gb : SA} (h : DctP X.K X.w d kns) (ha : AJ X pa a ga) (hb : AJ X pa b gb) (hm : behindInMarks .NotIn b = false) : TJ X pa (.Compare a [.NotIn] [b] pos) (c2 ga gb (kNotG d kns)) := tj_cmp (op_notG h) (k_notG h) ha hb hm
theorem ej_itG {a b : Expr} {ga gb : SA} (h : DctP X.K X.w d kns) (ha : AJ X pa a ga) (hb : AJ X pa b gb) (hs : PlainIx b) : EJ X pa (.Subscript a b pos) (s2 ga gb (kItG d kns)) := ej_ix ix_kdict (k_itG h) ha hb hs
end
end
section
variable {d : Addr} {kns : List (Str × Str)} {P : O → Prop} {z : Str}
@[simp] theorem kNotG_s : kNotG d kns (.str z) (.ref d) P = (True ∧ (∃ y, kns.lookup z = some y) ∧ P (.leaf (.bl false))) := by simp [kNotG]
@[simp] theorem kItG_s : kItG d kns (.ref d) (.str z) P = (∃ y, kns.lookup z = some y ∧ P (.leaf (.fn y))) := by simp [kItG]
end
end L3
/-! L3U: comprehensions of lists that are changed later; x[e][e] = ..; three stores at once; calls without arguments; starred items. -/
namespace L3
open PySem PySem.Spec PyProof.Rows L2
def compGoL (g : SG) (c : ST) (f : SE) (vs : List Nat) : List D → List S → (List O → List S → Prop) → Prop
  | [], Γ, κ => κ [] Γ
  | d :: ds, Γ, κ => g d Γ fun Γ1 => c Γ1 (fun b Γ2 => if b = true then f Γ2 (fun t Γ3 => compGoL g c f vs ds (clr vs Γ3) fun ys Γ4 => κ (t :: ys) Γ4) noX else compGoL g c f vs ds (clr vs Γ2) κ) noX
@[simp] def sCompL (h : SI) (g : SG) (c : ST) (f : SE) (vs : List Nat) : SE := fun Γ κ Ex => h Γ (fun ds Γ1 => ds.length ≤ sizeLine ∧ compGoL g c f vs ds (clr vs Γ1) fun ys Γ2 => κ (.ll ys) (rst vs Γ1 Γ2)) Ex
theorem Owns.snoc {K : PySem.W.Frag} {F H : Hp} {v : V} {t : O} {r' : List Addr} (q : Own K F H v t r') : ∀ {ts : List O} {vs : List V} {r : List Addr}, Owns K F H vs ts r → (∀ a ∈ r, a ∉ r') → Owns K F H (vs ++ [v]) (ts ++ [t]) (r ++ r')
  | [], _, _, .nil, _ => by
    have z := Owns.cons (K := K) (F := F) (H := H) q .nil (fun _ _ => by simp)
    simpa using z
  | t0 :: ts, _, _, .cons (r := r0) (rs := rs) p ps n, h => by
    rw [List.append_assoc]
    refine .cons p (Owns.snoc q ps fun a ha => h a (List.mem_append_right _ ha)) fun a ha hb => ?_
    rcases List.mem_append.mp hb with hb | hb
    · exact n a ha hb
    · exact h a (List.mem_append_left _ ha) hb
section
variable {X : Cx} {pa : List V} {pos p : Pos} {tg iter elt : Expr} {ifs : List Expr} {scope : Scope} {own : List (Str × Nat)} {f : SE} {h : SI} {g : SG} {c : ST}
theorem tLcL_of {W : WX} {vs : List Nat} {σ : Sg} {H : Hp} {Q : VK} (hh : tE X.K pa W (sCompL h g c f vs) σ H Q) : tLc (tI X.K pa W h) (tG X.K pa vs g) (tT X.K pa noW c) (tE X.K pa noW f) vs σ H Q := by
  obtain ⟨F, Γ, R, Ex, Kc, o, xl, q, kk⟩ := hh
  refine ⟨F, Γ, R, Ex, _, o, xl, q, fun ds Γ1 ⟨hsz, h1⟩ J F1 H1 R1 o1 s1 it => fun Dd hD => ?_⟩
  refine ⟨fun i m H => m = ds.length - i ∧ i ≤ ds.length ∧ ∃ F Γ R acc rr, OkF X.K pa F H (wipe σ vs) Γ R ∧ Stp F1 H1 R1 F H R (Dd :: rr) ∧ Res X.K F H R (.ref Dd) (.ll acc) (Dd :: rr) ∧ acc.length ≤ i ∧ compGoL g c f vs (ds.drop i) Γ (fun ys Γ2 => Kc (.ll (acc ++ ys)) (rst vs Γ1 Γ2)), ⟨ds.length, ?_⟩, ?_⟩
  · have oc := clr_ok (vs := vs) o1
    obtain ⟨o2, s2⟩ := oc.newH (x := .lst []) hD
    refine ⟨by simp, Nat.zero_le _, F1, _, _, [], [], o2, (Stp.refl.le offR_le).trans s2, ⟨.ll upd_same .nil (by simp), fun i a ha hi => ?_, fun a ha => ?_⟩, Nat.le_refl _, by simpa using h1⟩
    · have e : a = Dd := by simpa using ha
      rw [e] at hi; exact oc.hs i Dd hi hD
    · have e : a = Dd := by simpa using ha
      rw [e]; exact o1.sub.none hD
  · rintro i m H2 ⟨rfl, hi, F2, Γ2, R2, acc, rr, o2, s2, x2, hacc, h2⟩
    obtain ⟨go, stop⟩ := it i F2 H2 (wipe σ vs) Γ2 R2 pa o2 s2.sub
    by_cases hlt : i < ds.length
    · rw [drop_get hlt] at h2
      obtain ⟨go, yld⟩ := go _ (List.getElem?_eq_getElem hlt)
      refine .inr ⟨go, fun H => ∃ F Γ R acc rr, OkF X.K pa F H (wipe σ vs) Γ R ∧ Stp F1 H1 R1 F H R (Dd :: rr) ∧ Res X.K F H R (.ref Dd) (.ll acc) (Dd :: rr) ∧ acc.length ≤ i + 1 ∧ compGoL g c f vs (ds.drop (i + 1)) Γ (fun ys Γ2 => Kc (.ll (acc ++ ys)) (rst vs Γ1 Γ2)),
        fun H' hN => ⟨ds.length - (i + 1), by omega, rfl, hlt, hN⟩, fun x H3 y => ?_⟩
      obtain ⟨F3, o3, s3, rp⟩ := yld x H3 y
      refine ⟨F3, Γ2, R2, _, _, o3, rp, h2, fun Γ4 h4 σ4 R4 o4 l4 w4 => ?_⟩
      rw [wipe_idem] at w4
      have x3 := (x2.keep s3).le l4
      have s4 : Stp F1 H1 R1 F3 H3 R4 (Dd :: rr) := ((s2.trans s3).le l4).withR s2.r1
      refine ⟨w4, F3, Γ4, R4, noX, _, o4, fun _ _ _ _ _ _ _ h => h.elim, h4, fun b Γ5 h5 F5 H5 R5 o5 s5 => ?_⟩
      have x5 := x3.keep s5
      have s45 : Stp F1 H1 R1 F5 H5 R5 (Dd :: rr) := (s4.trans s5).withR s2.r1
      cases b with
      | true =>
        dsimp only
        rw [if_pos rfl] at h5 ⊢
        refine ⟨F5, Γ5, R5, noX, _, o5, fun _ _ _ _ _ _ _ h => h.elim, h5, fun t Γ6 h6 v F6 H6 R6 r6 o6 s6 x6 => ?_⟩
        have x7 := x5.keep s6
        obtain ⟨ws, e7, r7, n7⟩ : ∃ ws, H6 Dd = some (.lst ws) ∧ Owns X.K F6 H6 ws acc rr ∧ Dd ∉ rr := by
          have own7 := x7.own
          cases own7 with
          | ll q1 q2 q3 => exact ⟨_, q1, q2, q3⟩
        have hlen : ws.length = acc.length := r7.length
        -- what is new lies apart
        have apart : ∀ a, a ∈ Dd :: rr → a ∉ r6 := fun a ha h6' => by
          rcases s6.r1 a h6' with z | ⟨j, z⟩
          · obtain ⟨xs, hx⟩ := Own.there _ _ _ x5.own a ha
            rw [z] at hx; cases hx
          · exact x5.dj j a ha z
        have nD6 : Dd ∉ r6 := apart Dd List.mem_cons_self
        have n7F : F6 Dd = none := x7.fr Dd (by simp)
        have n7R : ∀ i, Dd ∉ R6 i := fun i => x7.dj i Dd (by simp)
        have o8 := (clr_ok (vs := vs) o6).updX (a := Dd) (x := .lst (ws ++ [v])) n7F (fun i z => n7R i (offR_le i _ z))
        rw [show wipe σ4 vs = wipe σ vs from w4] at o8
        have ow8 : Owns X.K F6 (upd H6 Dd (.lst (ws ++ [v]))) (ws ++ [v]) (acc ++ [t]) (rr ++ r6) :=
          Owns.snoc (x6.own.mono .refl _ _ _ fun a ha => upd_ne fun z : a = Dd => nD6 (z ▸ ha)) (r7.mono .refl _ _ _ fun a ha => upd_ne fun z : a = Dd => n7 (z ▸ ha)) fun a ha => apart a (List.mem_cons_of_mem _ ha)
        refine ⟨ws, e7, by omega, F6, clr vs Γ6, offR vs R6, acc ++ [t], rr ++ r6, o8, ?_, ⟨.ll upd_same ow8 ?_, fun i a ha hi => ?_, fun a ha => ?_⟩, by simp; omega, ?_⟩
        · refine (((s45.trans s6).le offR_le).updX hD).withR fun a ha => ?_
          rcases List.mem_cons.mp ha with rfl | ha
          · exact .inl hD
          rcases List.mem_append.mp ha with ha | ha
          · exact s2.r1 a (List.mem_cons_of_mem _ ha)
          · exact (s45.trans s6).r1 a ha
        · intro z
          rcases List.mem_append.mp z with z | z
          · exact n7 z
          · exact nD6 z
        · have hi := offR_le i _ hi
          rcases List.mem_cons.mp ha with rfl | ha
          · exact n7R i hi
          rcases List.mem_append.mp ha with ha | ha
          · exact x7.dj i a (List.mem_cons_of_mem _ ha) hi
          · exact x6.dj i a ha hi
        · rcases List.mem_cons.mp ha with rfl | ha
          · exact n7F
          rcases List.mem_append.mp ha with ha | ha
          · exact x7.fr a (List.mem_cons_of_mem _ ha)
          · exact x6.fr a ha
        · simpa using h6
      | false =>
        dsimp only
        rw [if_neg Bool.false_ne_true] at h5 ⊢
        have o8 := clr_ok (vs := vs) o5
        rw [show wipe σ4 vs = wipe σ vs from w4] at o8
        exact ⟨F5, clr vs Γ5, offR vs R5, acc, rr, o8, s45.le offR_le, x5.le offR_le, by omega, h5⟩
    · rw [List.drop_eq_nil_of_le (by omega)] at h2
      exact .inl ⟨stop (by omega), kk _ _ (by simpa [compGoL] using h2) _ F2 H2 _ _ (rst_ok o1 s2.sub o2) ((s1.trans s2).le offR_le) (x2.le offR_le)⟩
theorem ej_compL (hc : X.calm = true) (hN : X.N.Nodup) (ok : BlkOk X.N X.env.scope scope own) (hi : IJ X pa tg iter h)
    (hg : ∀ (s : Shared) (H : Hp) (C : Addr) (cl : List (Str × Addr)) (fp : List Addr), GJ (X.blk s H scope (compEnvC scope cl C X.env) fp) pa (own.map (·.2)) tg g)
    (ht : ∀ (s : Shared) (H : Hp) (C : Addr) (cl : List (Str × Addr)) (fp : List Addr), CJ (X.blk s H scope (compEnvC scope cl C X.env) fp) pa ifs c)
    (he : ∀ (s : Shared) (H : Hp) (C : Addr) (cl : List (Str × Addr)) (fp : List Addr), EJ (X.blk s H scope (compEnvC scope cl C X.env) fp) pa elt f)
    (hs : ∀ x, foldedSetIterable iter X.env x = pure x := by intro _; rfl) : EJ X pa (.ListComp elt [⟨tg, iter, ifs, 0⟩] scope pos) (sCompL h g c f (own.map (·.2))) := ⟨fun W tk =>
  PE.imp (pe_lc hc hN (hi.run W tk) ok (fun s H C cl fp => (hg s H C cl fp).run) (fun s H C cl fp => (ht s H C cl fp).run) (fun s H C cl fp => (he s H C cl fp).run noW takesNo) hs) fun σ H Q h => tLcL_of h⟩
theorem sj_setCompL {i : Nat} {y : Str} {py spos : Pos} (hc : X.calm = true) (hN : X.N.Nodup) (hy : X.N[i]? = some y) (hyl : X.env.scope.names.lookup y = some .local)
    (hsw : swapsWith (.ListComp elt [⟨tg, iter, ifs, 0⟩] scope pos) (some (.Name y py)) spos.line X.env = pure true) (ok : BlkOk X.N X.env.scope scope own) (hi : IJ X pa tg iter h)
    (hg : ∀ (s : Shared) (H : Hp) (C : Addr) (cl : List (Str × Addr)) (fp : List Addr), GJ (X.blk s H scope (compEnvC scope cl C X.env) fp) pa (own.map (·.2)) tg g)
    (ht : ∀ (s : Shared) (H : Hp) (C : Addr) (cl : List (Str × Addr)) (fp : List Addr), CJ (X.blk s H scope (compEnvC scope cl C X.env) fp) pa ifs c)
    (he : ∀ (s : Shared) (H : Hp) (C : Addr) (cl : List (Str × Addr)) (fp : List Addr), EJ (X.blk s H scope (compEnvC scope cl C X.env) fp) pa elt f)
    (hs : ∀ x, foldedSetIterable iter X.env x = pure x := by intro _; rfl) : SJ X pa (.Assign [.Name y py] (.ListComp elt [⟨tg, iter, ifs, 0⟩] scope pos) spos) (zOwn i (sCompL h g c f (own.map (·.2)))) := ⟨fun W tk =>
  PS.imp (ps_setLc hc hN hy hyl hsw (hi.run W tk) ok (fun s H C cl fp => (hg s H C cl fp).run) (fun s H C cl fp => (ht s H C cl fp).run) (fun s H C cl fp => (he s H C cl fp).run noW takesNo) hs) fun D σ H hh => by
    obtain ⟨F, Γ, R, Ex, k, o, xl, q, n, _⟩ := hh
    refine tLcL_of (h := h) (g := g) (c := c) (f := f) (W := W) (Q := fun x H1 => D.nx (σ.set i (some x)) H1) ?_
    exact ⟨F, Γ, R, Ex, _, o, xl σ, q, fun t Γ' h1 v F' H' R' r o' s' x' => n _ h1 _ F' H' _ (o'.setO x') s'.setO⟩⟩
end
section
variable {X : Cx} {pa : List V} {pos p1 p2 p3 p4 p5 px py pw pt pt2 p : Pos} {a b d e : Expr} {es : List Expr} {x y u : Str} {i j l kt k2 k n : Nat} {f : SE} {ga : SA} {gs : SAs} {q1 q2 : List S → Option Int} {fa : Addr} {fd : FuncData} {ps : List Str} {fc : SE}
/-- x[m][n] = e -/
@[simp] def zSetVI (i : Nat) (f : SE) (q1 q2 : List S → Option Int) : SS := fun k Γ Ex => f Γ (fun t Γ1 => ∃ (j : Option Nat) (ts : List O) (ds : List D) (c k0 : Nat), Γ1[i]? = some (.o j (.ll ts)) ∧ q1 Γ1 = some (c : Int) ∧ q2 Γ1 = some (k0 : Int) ∧ ts[c]? = some (.ls ds) ∧ k0 < ds.length ∧ k.nx (Γ1.set i (.o j (.ll (ts.set c (.ls (ds.set k0 t.fz))))))) Ex
theorem sj_setVI (hp : PE X (.Name x p1) (tVar i)) (ha : QJ X pa (.Name y p2) q1) (hb : QJ X pa (.Name u p4) q2) (hf : EJ X pa e f)
    (hs : swapsWithSole [.Subscript (.Subscript (.Name x p1) (.Name y p2) p3) (.Name u p4) p5] e pos.line X.env = pure false := by rfl)
    (hw : swappedStores [.Subscript (.Subscript (.Name x p1) (.Name y p2) p3) (.Name u p4) p5] e X.env = pure none := by rfl) :
    SJ X pa (.Assign [.Subscript (.Subscript (.Name x p1) (.Name y p2) p3) (.Name u p4) p5] e pos) (zSetVI i f q1 q2) := ⟨fun W tk => PS.imp (ps_asg (hf.run W tk) (pg_sub (pe_ix ix_list hp ha.run (fun _ _ => rfl)) hb.run set_list) hs hw) fun D σ H ⟨F, Γ, R, Ex, k, o, xl, q, n, _⟩ =>
  ⟨F, Γ, R, Ex, _, o, xl σ, q, fun t Γ1 ⟨j, ts, ds, c, k0, e1, e3, e4, e2, hk, h1⟩ v F' H' R' r o' s' x' => by
    have o2 := x'.freezeOk o'
    have r2 := x'.freezeRp
    have s2 := x'.freezeStp s'
    obtain ⟨a, vs, rr, ev, ha, ow, hn, hR⟩ := o2.ll e1
    obtain ⟨b, ws, h3, h4, h5, h6, h7⟩ := ow.inner e2
    refine ⟨_, ev, _, _, _, _, o2, e3, _, _, _, _, rfl, rfl, SqL.of ha, atI_nat h3, _, _, _, _, o2, e4, _, ws, _, k0, rfl, rfl, h4, set_ne (v := v) (by rw [h5.length]; exact hk), ?_⟩
    have nab : a ≠ b := fun z => hn (z ▸ h6)
    obtain ⟨o3, s3⟩ := o2.updI (x := .lst (ws.set k0 v)) (p := b) (t' := .ll (ts.set c (.ls (ds.set k0 t.fz)))) e1 ev (by rw [hR]; exact List.mem_cons_of_mem _ h6) (by
      rw [hR]
      exact .ll (by rw [upd_ne nab]; exact ha) (h7 _ _ (h5.set k0 r2)) hn)
    exact n _ h1 _ _ _ _ o3 (s2.trans s3)⟩⟩
/-- x, y, z = a, b, c -/
@[simp] def zPar3 (i j l : Nat) (gs : SAs) : SS := fun k Γ Ex => gs Γ (fun as Γ1 => vals as fun ds => match ds with | [d1, d2, d3] => k.nx (((Γ1.set i (.v d1)).set j (.v d2)).set l (.v d3)) | _ => False) Ex
theorem sj_par3 (hc : X.calm = true) (hN : X.N.Nodup) (hi : X.N[i]? = some x) (hj : X.N[j]? = some y) (hl : X.N[l]? = some u) (hij : i ≠ j) (hil : i ≠ l) (hjl : j ≠ l) (hx : X.env.scope.names.lookup x = some .local) (hy : X.env.scope.names.lookup y = some .local) (hu : X.env.scope.names.lookup u = some .local) (ha : AsJ X pa [a, b, d] gs)
    (hw : swappedStores [.Tuple [.Name x px, .Name y py, .Name u pw] kt pt] (.Tuple [a, b, d] k2 pt2) X.env = pure (some [x, y, u])) (hs : swapsWithSole [.Tuple [.Name x px, .Name y py, .Name u pw] kt pt] (.Tuple [a, b, d] k2 pt2) pos.line X.env = pure false := by rfl) :
    SJ X pa (.Assign [.Tuple [.Name x px, .Name y py, .Name u pw] kt pt] (.Tuple [a, b, d] k2 pt2) pos) (zPar3 i j l gs) := ⟨fun W tk => PS.imp (ps_par3 hc hN hi hj hl hij hil hjl hx hy hu (ha.run W tk) hw hs) fun D σ H ⟨F, Γ, R, Ex, k, o, xl, q, n, _⟩ =>
  ⟨F, Γ, R, Ex, _, o, xl σ, q, fun as Γ1 h1 vs F1 H1 R1 o1 s1 a1 => by
    obtain ⟨ds, rp, h2⟩ := vals_ok a1 h1
    split at h2
    · cases rp with
      | cons r1 rp =>
        cases rp with
        | cons r2 rp =>
          cases rp with
          | cons r3 rp =>
            cases rp
            refine ⟨_, _, _, rfl, ?_⟩
            have o2 := ((o1.setV (i := i) r1).setV (i := j) r2).setV (i := l) r3
            exact n _ h2 _ F1 H1 _ o2 (s1.le fun k a h => by
              try dsimp only at h
              repeat' (split at h)
              all_goals first | cases h | exact h)
    · exact h2.elim⟩⟩
/-- f() -/
theorem ej_call0 (G : FnG X.prog X.w X.K X.mg X.base k fa fd ps (spF X.K 0 fc)) (room : Room k X.A) (gd : X.A.guards = some []) (hg : Gl X x) (hm : X.mg x = some (.ref fa)) (hk : PySem.W.keepIn X.K (.ref fa) = true) (hb : Binds X.K fd ps [])
    (hdb : (x == ("__debug__" : Str)) = false := by decide) : EJ X pa (.Call (.Name x p) [] [] pos) (sCallN 0 fc aNil) := ⟨fun W tk => by
  have pe : PE X (.Call (.Name x p) [] [] pos) (fun σ H Q => spF X.K 0 fc [] H Q (fun cls d H' => W cls d σ H')) := by
    refine ⟨fun pins s σ H Q I h => ?_⟩
    refine wpAny_Call_Name_kw (ld_glob I hg hm ?_ hdb)
    refine PySem.W.callWith_K0 I.kIn hk (wpAny_call (codeAny_mono (G.run X.A X.stack s H ⟨[], []⟩ [] [] Q _ room gd I.env0 ?_ .nil h) ?_))
    · have hl : ([] ++ ([] : List Value)).length = ps.length := G.len _ _ _ _ h
      exact hb s [] I.kIn hl
    · intro r s' hq
      match r, hq with
      | .error e, hq => exact passAt tk σ pins H s e s' I hq
      | .ok (.ret u), hq => exact I.after hq
      | .ok .next, hq => exact hq.elim
      | .ok .brk, hq => exact hq.elim
      | .ok .cont, hq => exact hq.elim
  refine PE.imp pe fun σ H Q h => ?_
  have h' := spF_of (n := 0) h
  obtain ⟨F, Γ, R, Ex, Kc, o, xl, q, kk⟩ := h'
  have e := kk [] Γ q.2 [] F H R o .refl .nil rfl
  exact e⟩
/-- .., *e, .. -/
@[simp] def aStar (g : SA) (gs : SAs) : SAs := fun Γ κ Ex => g Γ (fun a Γ1 => rdK Γ1 a fun d => ∃ ds, d = .tup ds ∧ gs Γ1 (fun as Γ2 => κ (ds.map Arg.val ++ as) Γ2) Ex) Ex
theorem argsOk_vals {K : PySem.W.Frag} {F : Hp} {σ : Sg} : ∀ {vs : List V} {ds : List D}, RpAll K F vs ds → ArgsOk K F σ vs (ds.map Arg.val)
  | _, _, .nil => .nil
  | _, _, .cons r q => .cons r (argsOk_vals q)
theorem ArgsOk.append {K : PySem.W.Frag} {F : Hp} {σ : Sg} : ∀ {vs ws : List V} {as bs : List Arg}, ArgsOk K F σ vs as → ArgsOk K F σ ws bs → ArgsOk K F σ (vs ++ ws) (as ++ bs)
  | [], _, [], _, .nil, q => q
  | _ :: _, _, _ :: _, _, .cons r p, q => .cons r (ArgsOk.append p q)
theorem asj_star (ha : AJ X pa a ga) (hs : AsJ X pa es gs) (hst : starEach (.Starred a p :: es) X.env = (true, eval a X.env) :: starEach es X.env := by rfl) : AsJ X pa (.Starred a p :: es) (aStar ga gs) := ⟨fun W tk =>
  PA.imp (StX.pa_star (ha.run W tk) (hs.run W tk) hst) fun σ H Q ⟨F, Γ, R, Ex, Kc, o, xl, q, k⟩ =>
    ⟨F, Γ, R, Ex, _, o, xl, q, fun y Γ1 h1 v F1 H1 R1 o1 s1 a1 => by
      obtain ⟨d, bp, ds, rfl, h2⟩ := rdK_ok o1 a1 h1
      obtain ⟨b, vs, ev, hq, rp⟩ := bp.sqT
      exact ⟨b, vs, ev, .inl (o1.sub.sqT hq), F1, Γ1, R1, Ex, _, o1, xl.step s1, h2, fun ys Γ2 h3 ws F2 H2 R2 o2 s2 a2 =>
        k _ _ h3 _ F2 H2 R2 o2 (s1.trans s2) ((argsOk_vals (RpAll.mono s2.sub _ _ rp)).append a2)⟩⟩⟩
/-- list(range(e)) -/
@[simp] def sLstRg (ga : SA) : SE := fun Γ κ Ex => ga Γ (fun a Γ1 => rdK Γ1 a fun d => ∃ n : Int, d = .int n ∧ RgOk 0 n ∧ κ (.ls ((List.range n.toNat).map fun j : Nat => .int j)) Γ1) Ex
theorem rp_rg {K : PySem.W.Frag} {F : Hp} {n : Int} : RpAll K F (rgV 0 n) ((List.range n.toNat).map fun j : Nat => L3.D.int j) := by
  unfold rgV
  rw [Int.sub_zero]
  generalize n.toNat = m
  have : ∀ l : List Nat, RpAll K F (l.map fun i : Nat => V.int (0 + (i : Int))) (l.map fun j : Nat => L3.D.int j) := fun l => by
    induction l with
    | nil => exact .nil
    | cons x l ih => exact .cons (by show Rp K F (V.int (0 + (x : Int))) (L3.D.int x); rw [Int.zero_add]; exact .int _) ih
  exact this _
theorem ej_listRg (hc : X.calm = true) (hg : Gl X "list") (hm : X.mg "list" = none) (hg2 : Gl X "range") (hm2 : X.mg "range" = none) (ha : AJ X pa a ga)
    (na : starEach [a] X.env = (false, eval a X.env) :: starEach [] X.env := by rfl) (nb : starEach [.Call (.Name "range" p2) [a] [] p3] X.env = (false, eval (.Call (.Name "range" p2) [a] [] p3) X.env) :: starEach [] X.env := by rfl) :
    EJ X pa (.Call (.Name "list" p1) [.Call (.Name "range" p2) [a] [] p3] [] pos) (sLstRg ga) := ⟨fun W tk =>
  PE.imp (pe_listRg hc hg hm (prg_1 hg2 hm2 (ha.run W tk) na) nb) fun σ H Q ⟨F, Γ, R, Ex, Kc, o, xl, q, k⟩ =>
    ⟨F, Γ, R, Ex, _, o, xl, q, fun y Γ1 h1 v F1 H1 R1 o1 s1 a1 => by
      obtain ⟨d, bp, n, rfl, hr, h2⟩ := rdK_ok o1 a1 h1
      refine ⟨n, bp.int, hr, fun q hq => ?_⟩
      obtain ⟨t, F', R', r', o', s', x', p⟩ := fin_ls (P := fun t => Kc t Γ1) o1 hq rp_rg h2
      exact k _ _ p _ F' _ R' r' o' (s1.trans s') x'⟩⟩
/-- len(x), x a list of things -/
@[simp] def sLenL (i : Nat) : SE := fun Γ κ _ => ∃ j ts, Γ[i]? = some (.o j (.ll ts)) ∧ κ (.leaf (.int (ts.length : Nat))) Γ
theorem ej_lenL (hp : PE X (.Name x p1) (tVar i)) (hg : Gl X "len") (hm : X.mg "len" = none) : EJ X pa (.Call (.Name "len" p2) [.Name x p1] [] pos) (sLenL i) := ⟨fun W tk =>
  PE.imp (pe_callB call_len_seq hg hm PySem.boot_len (pa_cons hp pa_nil)) fun σ H Q ⟨F, Γ, R, Ex, Kc, o, xl, ⟨j, ts, e, q⟩, k⟩ => by
    obtain ⟨a, vs, rr, ev, ha, ow, hn, hR⟩ := o.ll e
    refine ⟨_, ev, _, vs, rfl, .inl (SqL.of ha), ?_⟩
    rw [ow.length]
    exact k _ _ q _ F H R [] o .refl (.leaf (.int _))⟩
end
end L3
namespace L3
open PySem PySem.Spec PyProof.Rows L2
/-! what the texts on told tables share -/
theorem eqD_strs {x y : Str} : eqD (.str x) (.str y) = decide (x = y) := by
  simp [eqD, D.py, PyData.eqv]
  by_cases h : x = y <;> simp [h]
theorem goZ_map {g : SG} {f : SE} {vs : List Nat} {Γ0 : List S} (F : D → D) : ∀ {ds : List D} {n : Nat} {κ : List D → List S → Prop}, n + ds.length ≤ sizeLine →
    (∀ d ∈ ds, ∀ (N : O → List S → Prop), (∀ Γ3, clr vs Γ3 = Γ0 → N (.leaf (F d)) Γ3) → g d Γ0 fun Γ1 => f Γ1 N noX) → κ (ds.map F) Γ0 → goZ g cYes f vs n ds Γ0 κ
  | [], n, κ, _, _, h => h
  | d :: ds, n, κ, hl, hs, h => by
    rw [List.length_cons] at hl
    show g d Γ0 fun Γ1 => f Γ1 (fun t Γ3 => n < sizeLine ∧ goZ g cYes f vs (n + 1) ds (clr vs Γ3) fun ys Γ4 => κ (t.fz :: ys) Γ4) noX
    refine hs d List.mem_cons_self _ fun Γ3 e => ⟨by omega, ?_⟩
    rw [e]
    exact goZ_map F (by omega) (fun d hd => hs d (List.mem_cons_of_mem _ hd)) h
theorem goA_map {g : SG} {h1 : SI} {r1 : SR} {vs vs1 : List Nat} {Γ0 : List S} (F : D → List D) (L M : Nat) : ∀ {ds : List D} {n : Nat} {κ : List D → List S → Prop}, (∀ d ∈ ds, (F d).length = L) → n + ds.length * L ≤ M →
    (∀ d ∈ ds, ∀ (m : Nat) (N : List D → List S → Prop), m + L ≤ M → (∀ Γ3, clr vs Γ3 = Γ0 → N (F d) Γ3) → g d Γ0 fun Γ1 => h1 Γ1 (fun ds1 Γ3 => r1 m ds1 (clr vs1 Γ3) N) noX) → κ (ds.flatMap F) Γ0 → goA g cYes h1 r1 vs vs1 n ds Γ0 κ
  | [], n, κ, _, _, _, h => h
  | d :: ds, n, κ, hF, hl, hs, h => by
    rw [List.length_cons, Nat.succ_mul] at hl
    show g d Γ0 fun Γ1 => h1 Γ1 (fun ds1 Γ3 => r1 n ds1 (clr vs1 Γ3) fun ys Γ4 => goA g cYes h1 r1 vs vs1 (n + ys.length) ds (clr vs Γ4) fun zs Γ5 => κ (ys ++ zs) Γ5) noX
    have e0 := hF d List.mem_cons_self
    refine hs d List.mem_cons_self n _ (by omega) fun Γ3 e => ?_
    rw [e]
    refine goA_map F L M (fun d hd => hF d (List.mem_cons_of_mem _ hd)) (by omega) (fun d hd => hs d (List.mem_cons_of_mem _ hd)) ?_
    simpa using h
theorem len_fm {α β : Type} {F : α → List β} {L : Nat} (h : ∀ a, (F a).length = L) : ∀ {l : List α}, (l.flatMap F).length = l.length * L
  | [] => by simp
  | a :: l => by rw [List.flatMap_cons, List.length_append, h a, len_fm h, List.length_cons, Nat.succ_mul, Nat.add_comm]
/-- name = [f for x in A for y in B for z in C], f a value of the three -/
theorem asg3 {own : List (Str × Nat)} {vs1 vs2 : List Nat} {i0 i1 i2 i : Nat} {f : SE} {k : Kn} {Γ : List S} {Ex : Xk} {A B C : List D} (V : D → D → D → D) (Γ0 : List S) (h0 : clr (own.map (·.2)) Γ = Γ0) (hl : A.length * (B.length * C.length) ≤ sizeLine)
    (he : ∀ a ∈ A, ∀ b ∈ B, ∀ c ∈ C, ∀ N : O → List S → Prop, N (.leaf (V a b c)) ((clr vs2 ((clr vs1 (Γ0.set i0 (.v a))).set i1 (.v b))).set i2 (.v c)) → f ((clr vs2 ((clr vs1 (Γ0.set i0 (.v a))).set i1 (.v b))).set i2 (.v c)) N noX)
    (e2 : ∀ a b c, clr vs2 ((clr vs2 ((clr vs1 (Γ0.set i0 (.v a))).set i1 (.v b))).set i2 (.v c)) = clr vs2 ((clr vs1 (Γ0.set i0 (.v a))).set i1 (.v b)))
    (e1 : ∀ a b, clr vs1 (clr vs2 ((clr vs1 (Γ0.set i0 (.v a))).set i1 (.v b))) = clr vs1 (Γ0.set i0 (.v a)))
    (e0 : ∀ a, clr (own.map (·.2)) (clr vs1 (Γ0.set i0 (.v a))) = Γ0)
    (h : k.nx ((rst (own.map (·.2)) Γ Γ0).set i (.v (.lst (A.flatMap fun a => B.flatMap fun b => C.map fun c => V a b c))))) :
    zAsg (sComp3 (iS (aE (sC (.tup A)))) (sr3 own vs1 vs2 (gN i0) (gN i1) (gN i2) cYes cYes cYes (iS (aE (sC (.tup B)))) (iS (aE (sC (.tup C)))) f) (own.map (·.2))) (gN i) k Γ Ex := by
  show goA (gN i0) cYes (iS (aE (sC (.tup B)))) (goA (gN i1) cYes (iS (aE (sC (.tup C)))) (goZ (gN i2) cYes f vs2) vs1 vs2) (own.map (·.2)) vs1 0 A (clr (own.map (·.2)) Γ) _
  rw [h0]
  have lenB : ∀ a, (B.flatMap fun b => C.map fun c => V a b c).length = B.length * C.length := fun a => len_fm fun b => List.length_map ..
  refine goA_map (fun a => B.flatMap fun b => C.map fun c => V a b c) (B.length * C.length) (A.length * (B.length * C.length)) (fun a _ => lenB a) (by omega) (fun a ha m N hm hN => ?_) h
  show goA (gN i1) cYes (iS (aE (sC (.tup C)))) (goZ (gN i2) cYes f vs2) vs1 vs2 m B (clr vs1 (Γ0.set i0 (.v a))) N
  refine goA_map (fun b => C.map fun c => V a b c) C.length (A.length * (B.length * C.length)) (fun b _ => List.length_map ..) hm (fun b hb m2 N2 hm2 hN2 => ?_) (hN _ (e0 a))
  show goZ (gN i2) cYes f vs2 m2 C (clr vs2 ((clr vs1 (Γ0.set i0 (.v a))).set i1 (.v b))) N2
  refine goZ_map (fun c => V a b c) (Nat.le_trans hm2 hl) (fun c hc N3 hN3 => he a ha b hb c hc _ (hN3 _ (e2 a b c))) (hN2 _ (e1 a b))
theorem lookup_mem : ∀ {l : List (Str × Str)} {z y : Str}, l.lookup z = some y → (z, y) ∈ l
  | [], _, _, h => by cases h
  | (a, b) :: l, z, y, h => by
    rw [List.lookup_cons] at h
    split at h
    · rename_i e
      cases h
      rw [eq_of_beq e]
      exact List.mem_cons_self
    · exact List.mem_cons_of_mem _ (lookup_mem h)
/-! told tables -/
abbrev sgs : List Str := ["<", "=", ">"]
def takeB (x b e v : Str) : Bool :=
  if x = "takes_always" then true
  else if x = "takes_begins" then decide (b = "<")
  else if x = "takes_ends" then decide (e = ">")
  else if x = "takes_cover" then decide (b ≠ ">") && decide (e ≠ "<") && !(decide (b = "=") && decide (e = "="))
  else if x = "takes_inner" then decide (b ≠ "<") && decide (e ≠ ">") && !(decide (b = "=") && decide (e = "="))
  else if x = "takes_least" then decide (v = "<")
  else if x = "takes_ranked" then (if decide (b = "=") && decide (e = "=") then decide (v = "<") else decide (b = "<") || (decide (b = "=") && decide (e = ">")))
  else false
theorem eqD_t2 {a b c d : Str} : eqD (.tup [.str a, .str b]) (.tup [.str c, .str d]) = (decide (a = c) && decide (b = d)) := by
  simp [eqD, D.py, pys, PyData.eqv, PyData.eqvAll]
  by_cases h : a = c <;> by_cases h2 : b = d <;> simp [h, h2]
section
variable {b e v : Str}
theorem tk_begins : takeB "takes_begins" b e v = decide (b = "<") := by rfl
theorem tk_ends : takeB "takes_ends" b e v = decide (e = ">") := by rfl
theorem tk_cover : takeB "takes_cover" b e v = (decide (b ≠ ">") && decide (e ≠ "<") && !(decide (b = "=") && decide (e = "="))) := by rfl
theorem tk_inner : takeB "takes_inner" b e v = (decide (b ≠ "<") && decide (e ≠ ">") && !(decide (b = "=") && decide (e = "="))) := by rfl
theorem tk_least : takeB "takes_least" b e v = decide (v = "<") := by rfl
theorem tk_ranked : takeB "takes_ranked" b e v = (if decide (b = "=") && decide (e = "=") then decide (v = "<") else decide (b = "<") || (decide (b = "=") && decide (e = ">"))) := by rfl
end
abbrev rulesL : List (Str × Str) := [("first", "takes_never"), ("last", "takes_always"), ("begins", "takes_begins"), ("ends", "takes_ends"), ("cover", "takes_cover"), ("inner", "takes_inner"), ("least", "takes_least"), ("ranked", "takes_ranked")]
def cs_RULES (x : Str) : SE := fun Γ κ _ => match Γ with | [.v (.str b), .v (.str e), .v (.str v)] => b ∈ sgs ∧ e ∈ sgs ∧ v ∈ sgs ∧ κ (.leaf (.bl (takeB x b e v))) Γ | _ => False
def c_takes_never : SE := cs_RULES "takes_never"
def c_takes_always : SE := cs_RULES "takes_always"
def c_takes_begins : SE := cs_RULES "takes_begins"
def c_takes_ends : SE := cs_RULES "takes_ends"
def c_takes_cover : SE := cs_RULES "takes_cover"
def c_takes_inner : SE := cs_RULES "takes_inner"
def c_takes_least : SE := cs_RULES "takes_least"
def c_takes_ranked : SE := cs_RULES "takes_ranked"
def entD (new : Bool) (n : Int) : D := .tup [.str (if new then "new" else "old"), .int n]
def oneS (x : Str) : D := .tup [.tup (sgs.flatMap fun b => sgs.flatMap fun e => sgs.map fun v => entD (takeB x b e v) 0)]
def c_one_state : SE := fun Γ κ _ => match Γ with | [.v (.fn x)] => x ∈ rulesL.map (·.2) ∧ κ (.leaf (oneS x)) Γ | _ => False
def sbv (eq other : D) : D := .tup (reps 9 [other, eq, other])
def c_state_by_value : SE := fun Γ κ _ => match Γ with | [.v a, .v b] => κ (.leaf (sbv a b)) Γ | _ => False
def voteT : D := .tup [sbv (entD false 0) (entD false 1), sbv (entD false 0) (entD true 0)]
def mostT : D := .tup [sbv (entD false 1) (entD false 2), sbv (entD false 1) (entD false 1), sbv (entD false 1) (entD true 1)]
def c_vote_table : SE := fun Γ κ _ => match Γ with | [] => κ (.leaf voteT) Γ | _ => False
def c_most_table : SE := fun Γ κ _ => match Γ with | [] => κ (.leaf mostT) Γ | _ => False
/-- the told tables -/
def toldT (z : Str) : Option D := if z = "vote" then some voteT else if z = "most" then some mostT else (rulesL.lookup z).map oneS
def c_told_table : SE := fun Γ κ _ => match Γ with | [.v (.str z)] => ∃ d, toldT z = some d ∧ κ (.leaf d) Γ | _ => False
/-! the tank -/
abbrev tankT (big : List Int) (mx cur : Int) : O := .ll [.ls (big.map .int), .leaf (.int mx), .leaf (.int cur)]
structure IsTank (m : Nat) (t : O) : Prop where
  ex : ∃ (big : List Int) (mx cur : Int), t = tankT big mx cur ∧ (big.length ≤ 63 ∧ ∀ x ∈ big, 0 ≤ x) ∧ 0 ≤ mx ∧ mx < 4294967291 ∧ 0 ≤ cur ∧ cur ≤ m
def c__law_well : SE := fun Γ κ _ => match Γ with | [.v (.scr ns)] => ns.length ≤ 63 ∧ ∀ t, IsTank 0 t → κ t Γ | _ => False
def c_tank_draw : SE := fun Γ κ _ => match Γ with | [.o (some 0) t, .v (.int below)] => (∃ m, IsTank m t ∧ m < 2 ^ 40 ∧ 0 < below ∧ below < 2 ^ 40 ∧ ∀ r t', 0 ≤ r → r < below → IsTank (m + 1) t' → κ (.leaf (.int r)) [.o (some 0) t', .v (.int below)]) | _ => False
end L3
/-! L3I: a module's dict from text to ints -/
namespace L3
open PySem PySem.Spec PyProof.Rows L2
structure DctIP (K : PySem.W.Frag) (w : World) (d : Addr) (kns : List (Str × Int)) : Prop where
  kd : ∃ es n, KDict K w d es n
  vals : ∀ z y, kns.lookup z = some y → ∃ t, PySem.W.nsIn K d z = some (some (.int y t))
structure DctI (K : PySem.W.Frag) (mg : Str → Option Value) (w : World) (x : Str) (kns : List (Str × Int)) : Type where
  d : Addr
  M : mg x = some (.ref d)
  P : DctIP K w d kns
theorem lookupI_mem : ∀ {l : List (Str × Int)} {z : Str} {y : Int}, l.lookup z = some y → (z, y) ∈ l
  | [], _, _, h => by cases h
  | (a, b) :: l, z, y, h => by
    rw [List.lookup_cons] at h
    split at h
    · rename_i e
      cases h
      rw [eq_of_beq e]
      exact List.mem_cons_self
    · exact List.mem_cons_of_mem _ (lookupI_mem h)
section
variable {X : Cx} {pa : List V} {pos : Pos} {kns : List (Str × Int)} {d : Addr}
def kItI (d : Addr) (kns : List (Str × Int)) : K2 := fun a b P => match a, b with
  | .ref d', .str z => d' = d ∧ ∃ y, kns.lookup z = some y ∧ P (.leaf (.int y))
  | _, _ => False
theorem k_itI (h : DctIP X.K X.w d kns) : Op2 X pa (rIxD X.K X.w) (kItI d kns) := by
  intro F H σ Γ R x y a b P Q o ba bb hh fin
  unfold kItI at hh
  split at hh
  · obtain ⟨e, y, ey, hh⟩ := hh
    subst e
    obtain ⟨t, e1⟩ := h.vals _ _ ey
    obtain ⟨es, n, D⟩ := h.kd
    cases ba with
    | rp q =>
      cases q
      cases bb with
      | rp q =>
        cases q
        exact ⟨_, _, V.int y, rfl, rfl, ⟨es, n, _, D.at_, D.lit, e1, ⟨t, rfl⟩⟩, fin _ _ (fin_leaf o (.int _) hh)⟩
  · exact hh.elim
theorem ej_itI {a b : Expr} {ga gb : SA} (h : DctIP X.K X.w d kns) (ha : AJ X pa a ga) (hb : AJ X pa b gb) (hs : PlainIx b) : EJ X pa (.Subscript a b pos) (s2 ga gb (kItI d kns)) := ej_ix ix_kdict (k_itI h) ha hb hs
@[simp] theorem kItI_s {P : O → Prop} {z : Str} : kItI d kns (.ref d) (.str z) P = (∃ y, kns.lookup z = some y ∧ P (.leaf (.int y))) := by simp [kItI]
end
end L3
/-! L3W: what the texts on tables, places and the tank share -/
namespace L3
open PySem PySem.Spec PyProof.Rows L2
/-! end_of -/
def pcD (p : Int × List D × Bool) : D := .tup [.int p.1, .tup p.2.1, .bl p.2.2]
def c_end_of : SE := fun Γ κ _ => ∃ p, Γ = [.v (pcD p)] ∧ p.2.1.length ≤ 10000 ∧ κ (.leaf (.int (p.1 + (p.2.1.length : Nat)))) Γ
/-! value_at -/
def vAt (p : Int × List D × Bool) (q : Int) : D := if p.1 ≤ q ∧ q < p.1 + (p.2.1.length : Nat) then p.2.1.getD (q - p.1).toNat .non else .non
def c_value_at : SE := fun Γ κ _ => ∃ p q, Γ = [.v (pcD p), .v (.int q)] ∧ p.2.1.length ≤ 10000 ∧ κ (.leaf (vAt p q)) Γ
/-! over -/
def isN : D → Bool
  | .non => true
  | _ => false
def ovs (q : Int) : Nat → List (Int × List D × Bool) → List Nat
  | _, [] => []
  | k, p :: ps => if isN (vAt p q) = true then ovs q (k + 1) ps else k :: ovs q (k + 1) ps
def c_over : SE := fun Γ κ _ => ∃ ps q, Γ = [.v (.tup (List.map pcD ps)), .v (.int q)] ∧ ps.length ≤ 5000 ∧ (∀ p ∈ ps, p.2.1.length ≤ 10000 ∧ ∀ d ∈ p.2.1, d = .non ∨ ∃ i, d = .int i) ∧ κ (.leaf (.tup ((ovs q 0 ps).map fun k : Nat => .int k))) Γ
/-! entry_number -/
def c_entry_number : SE := fun Γ κ _ => match Γ with | [.v (.int a), .v (.int b), .v (.int c)] => 0 ≤ a ∧ a < 3 ∧ 0 ≤ b ∧ b < 3 ∧ κ (.leaf (.int (9 * a + 3 * b + c))) Γ | _ => False
/-! compared -/
def sgn3 (a b : Int) : Int := if a < b then 0 else if a = b then 1 else 2
theorem sgn3_is (a b : Int) : 0 ≤ sgn3 a b ∧ sgn3 a b < 3 := by
  unfold sgn3
  split
  · decide
  · split <;> decide
def c_compared : SE := fun Γ κ _ => match Γ with | [.v (.int a), .v (.int b)] => κ (.leaf (.int (sgn3 a b))) Γ | _ => False
/-! entry_between -/
def vI (p : Int × List D × Bool) (q : Int) : Int := match vAt p q with
  | .int i => i
  | _ => 0
def tbD (tb : List (List (Bool × Int))) : D := .tup (tb.map fun st => .tup (st.map fun e => entD e.1 e.2))
def entI (o n : Int × List D × Bool) (q : Int) : Int := 9 * sgn3 n.1 o.1 + 3 * sgn3 (n.1 + (n.2.1.length : Nat)) (o.1 + (o.2.1.length : Nat)) + sgn3 (vI n q) (vI o q)
def entA (tb : List (List (Bool × Int))) (s : Nat) (o n : Int × List D × Bool) (q : Int) : Bool × Int := (tb.getD s []).getD (entI o n q).toNat (false, 0)
theorem entI_is (o n : Int × List D × Bool) (q : Int) : 0 ≤ entI o n q ∧ entI o n q < 27 := by
  have h1 := sgn3_is n.1 o.1
  have h2 := sgn3_is (n.1 + (n.2.1.length : Nat)) (o.1 + (o.2.1.length : Nat))
  have h3 := sgn3_is (vI n q) (vI o q)
  unfold entI
  omega
structure Pc (p : Int × List D × Bool) : Prop where
  len : p.2.1.length ≤ 10000
  its : ∀ d ∈ p.2.1, d = .non ∨ ∃ i, d = .int i
def c_entry_between : SE := fun Γ κ _ => ∃ (tb : List (List (Bool × Int))) (s : Nat) (o n : Int × List D × Bool) (q v w : Int), Γ = [.v (tbD tb), .v (.int s), .v (pcD o), .v (pcD n), .v (.int q)] ∧ s < tb.length ∧ (∀ st ∈ tb, st.length = 27) ∧ Pc o ∧ Pc n ∧ vAt n q = .int v ∧ vAt o q = .int w ∧
  κ (.leaf (entD (entA tb s o n q).1 (entA tb s o n q).2)) Γ
/-! next_holding -/
def hdD : Option (Nat × Nat) → D
  | none => .non
  | some (o, s) => .tup [.int o, .int s]
/-- a row's piece with a value at q -/
def Ov (ps : List (Int × List D × Bool)) (q : Int) (k : Nat) : Prop := ∃ p v, ps[k]? = some p ∧ vAt p q = .int v
def nxH (tb : List (List (Bool × Int))) (ps : List (Int × List D × Bool)) (q : Int) (h : Option (Nat × Nat)) (k : Nat) : Nat × Nat := match h with
  | none => (k, 0)
  | some (o, s) => let e := entA tb s (ps.getD o (0, [], false)) (ps.getD k (0, [], false)) q
    (if e.1 then k else o, e.2.toNat)
structure WfT (tb : List (List (Bool × Int))) : Prop where
  ne : 0 < tb.length
  len : ∀ st ∈ tb, st.length = 27
  nx : ∀ st ∈ tb, ∀ e ∈ st, 0 ≤ e.2 ∧ e.2 < tb.length
theorem WfT.ent {tb : List (List (Bool × Int))} (w : WfT tb) {s : Nat} (hs : s < tb.length) (o n : Int × List D × Bool) (q : Int) : 0 ≤ (entA tb s o n q).2 ∧ (entA tb s o n q).2 < tb.length := by
  have en := entI_is o n q
  have hk2 : (entI o n q).toNat < (tb[s]).length := by rw [w.len _ (List.getElem_mem hs)]; omega
  have g1 : tb.getD s [] = tb[s] := by rw [List.getD_eq_getElem?_getD, List.getElem?_eq_getElem hs]; rfl
  unfold entA
  rw [g1, List.getD_eq_getElem?_getD, List.getElem?_eq_getElem hk2]
  exact w.nx _ (List.getElem_mem hs) _ (List.getElem_mem hk2)
def c_next_holding : SE := fun Γ κ _ => ∃ (tb : List (List (Bool × Int))) (ps : List (Int × List D × Bool)) (hd : Option (Nat × Nat)) (k : Nat) (q : Int), Γ = [.v (tbD tb), .v (.tup (ps.map pcD)), .v (hdD hd), .v (.int k), .v (.int q)] ∧
  WfT tb ∧ (∀ p ∈ ps, Pc p) ∧ Ov ps q k ∧ (∀ o s, hd = some (o, s) → Ov ps q o ∧ s < tb.length) ∧ κ (.leaf (hdD (some (nxH tb ps q hd k)))) Γ
/-! steps_at -/
theorem vAt_is {p : Int × List D × Bool} (pc : Pc p) (q : Int) : vAt p q = .non ∨ ∃ i, vAt p q = .int i := by
  unfold vAt
  split
  · rename_i hh
    have : (q - p.1).toNat < p.2.1.length := by omega
    rw [List.getD_eq_getElem?_getD, List.getElem?_eq_getElem this]
    exact pc.its _ (List.getElem_mem this)
  · exact .inl rfl
theorem ovs_mem {q : Int} : ∀ {rs : List (Int × List D × Bool)} {j k : Nat}, k ∈ ovs q j rs → j ≤ k ∧ ∃ p, rs[k - j]? = some p ∧ isN (vAt p q) = false
  | [], j, k, h => by simp [ovs] at h
  | p :: rs, j, k, h => by
    unfold ovs at h
    have tl : k ∈ ovs q (j + 1) rs → j ≤ k ∧ ∃ p', (p :: rs)[k - j]? = some p' ∧ isN (vAt p' q) = false := fun h => by
      obtain ⟨h1, p', h2, h3⟩ := ovs_mem h
      refine ⟨by omega, p', ?_, h3⟩
      rw [show k - j = (k - (j + 1)) + 1 by omega, List.getElem?_cons_succ]
      exact h2
    by_cases e : isN (vAt p q) = true
    · rw [if_pos e] at h
      exact tl h
    · rw [if_neg e] at h
      rcases List.mem_cons.mp h with rfl | h
      · exact ⟨Nat.le_refl _, p, by simp, by simpa using e⟩
      · exact tl h
theorem ovs_Ov {ps : List (Int × List D × Bool)} {q : Int} {k : Nat} (pp : ∀ p ∈ ps, Pc p) (h : k ∈ ovs q 0 ps) : Ov ps q k := by
  obtain ⟨_, p, h2, h3⟩ := ovs_mem h
  rw [Nat.sub_zero] at h2
  rcases vAt_is (pp p (List.mem_of_getElem? h2)) q with e | ⟨i, e⟩
  · rw [e] at h3; cases h3
  · exact ⟨p, i, h2, e⟩
theorem ovs_len {q : Int} : ∀ {rs : List (Int × List D × Bool)} {j : Nat}, (ovs q j rs).length ≤ rs.length
  | [], _ => Nat.le_refl _
  | p :: rs, j => by
    unfold ovs
    split
    · exact Nat.le_succ_of_le ovs_len
    · exact Nat.succ_le_succ ovs_len
def stp (tb : List (List (Bool × Int))) (ps : List (Int × List D × Bool)) (q : Int) : Option (Nat × Nat) → List Nat → List (Nat × Nat × Nat)
  | _, [] => []
  | h, k :: ks => (k, nxH tb ps q h k) :: stp tb ps q (some (nxH tb ps q h k)) ks
def stepD (x : Nat × Nat × Nat) : D := .tup [.int x.1, .int x.2.1, .int x.2.2]
def HdOk (tb : List (List (Bool × Int))) (ps : List (Int × List D × Bool)) (q : Int) (hd : Option (Nat × Nat)) : Prop := ∀ o s, hd = some (o, s) → Ov ps q o ∧ s < tb.length
theorem HdOk.nx {tb : List (List (Bool × Int))} {ps : List (Int × List D × Bool)} {q : Int} {hd : Option (Nat × Nat)} {k : Nat} (w : WfT tb) (h : HdOk tb ps q hd) (hk : Ov ps q k) : HdOk tb ps q (some (nxH tb ps q hd k)) := by
  rintro o' s' e
  cases hd with
  | none =>
    cases e
    exact ⟨hk, w.ne⟩
  | some os =>
    obtain ⟨o, s⟩ := os
    obtain ⟨h1, h2⟩ := h o s rfl
    have we := w.ent h2 (ps.getD o (0, [], false)) (ps.getD k (0, [], false)) q
    have e : ((if (entA tb s (ps.getD o (0, [], false)) (ps.getD k (0, [], false)) q).1 then k else o), (entA tb s (ps.getD o (0, [], false)) (ps.getD k (0, [], false)) q).2.toNat) = (o', s') := Option.some.inj e
    obtain ⟨e1, e2⟩ := Prod.mk.inj e
    subst e1 e2
    refine ⟨?_, by omega⟩
    split
    · exact hk
    · exact h1
structure RowOk (ps : List (Int × List D × Bool)) : Prop where
  len : ps.length ≤ 5000
  pc : ∀ p ∈ ps, Pc p
def c_steps_at : SE := fun Γ κ _ => ∃ (tb : List (List (Bool × Int))) (ps : List (Int × List D × Bool)) (q : Int), Γ = [.v (tbD tb), .v (.tup (ps.map pcD)), .v (.int q)] ∧ WfT tb ∧ RowOk ps ∧ κ (.leaf (.tup ((stp tb ps q none (ovs q 0 ps)).map stepD))) Γ
/-! owner_at -/
def ownr (tb : List (List (Bool × Int))) (ps : List (Int × List D × Bool)) (q : Int) : Option Nat := ((stp tb ps q none (ovs q 0 ps)).getLast?).map (·.2.1)
def onD : Option Nat → D
  | none => .non
  | some k => .int k
def c_owner_at : SE := fun Γ κ _ => ∃ (tb : List (List (Bool × Int))) (ps : List (Int × List D × Bool)) (q : Int), Γ = [.v (tbD tb), .v (.tup (ps.map pcD)), .v (.int q)] ∧ WfT tb ∧ RowOk ps ∧ κ (.leaf (onD (ownr tb ps q))) Γ
theorem stp_len {tb : List (List (Bool × Int))} {ps : List (Int × List D × Bool)} {q : Int} : ∀ {ks : List Nat} {h : Option (Nat × Nat)}, (stp tb ps q h ks).length = ks.length
  | [], _ => rfl
  | k :: ks, h => by unfold stp; rw [List.length_cons, List.length_cons, stp_len]
theorem atI_end {α : Type} {l : List α} {x : α} : atI (l ++ [x]) (-1) = some x := by
  have e : ixN (l ++ [x]).length (-1) = some l.length := by
    unfold ixN
    rw [if_neg (by decide), List.length_append, List.length_singleton, if_pos (by omega)]
    congr 1
    omega
  unfold atI
  rw [e]
  simp
/-! value_read -/
def c_value_read : SE := fun Γ κ _ => ∃ (tb : List (List (Bool × Int))) (ps : List (Int × List D × Bool)) (q : Int), Γ = [.v (tbD tb), .v (.tup (ps.map pcD)), .v (.int q)] ∧ WfT tb ∧ RowOk ps ∧ κ (.leaf (match ownr tb ps q with | none => .non | some k => vAt (ps.getD k (0, [], false)) q)) Γ
theorem stp_Ov {tb : List (List (Bool × Int))} {ps : List (Int × List D × Bool)} {q : Int} (w : WfT tb) : ∀ {ks : List Nat} {h : Option (Nat × Nat)}, (∀ k ∈ ks, Ov ps q k) → HdOk tb ps q h → ∀ x ∈ stp tb ps q h ks, Ov ps q x.2.1
  | [], _, _, _, x, hx => by simp [stp] at hx
  | k :: ks, h, hk, ho, x, hx => by
    have n := ho.nx w (hk k List.mem_cons_self)
    unfold stp at hx
    rcases List.mem_cons.mp hx with rfl | hx
    · exact (n _ _ rfl).1
    · exact stp_Ov w (fun k hk' => hk k (List.mem_cons_of_mem _ hk')) n x hx
theorem ownr_Ov {tb : List (List (Bool × Int))} {ps : List (Int × List D × Bool)} {q : Int} (w : WfT tb) (r : RowOk ps) {o : Nat} (h : ownr tb ps q = some o) : Ov ps q o := by
  unfold ownr at h
  obtain ⟨x, hx, rfl⟩ := Option.map_eq_some_iff.mp h
  exact stp_Ov w (fun k hk => ovs_Ov r.pc hk) (fun _ _ (e : (none : Option (Nat × Nat)) = some _) => by cases e) x (List.mem_of_getLast? hx)
/-! _law_pick -/
def c__law_pick : SE := fun Γ κ _ => match Γ with | [.o (some 0) t, .v (.lst xs)] => (∃ m, IsTank m t ∧ m < 2 ^ 40 ∧ 0 < xs.length ∧ xs.length < 2 ^ 40 ∧ ∀ d t', d ∈ xs → IsTank (m + 1) t' → κ (.leaf d) [.o (some 0) t', .v (.lst xs)]) | _ => False
/-! _law_table -/
def oneB (x : Str) : List (List (Bool × Int)) := [sgs.flatMap fun b => sgs.flatMap fun e => sgs.map fun v => (takeB x b e v, 0)]
theorem oneB_D (x : Str) : oneS x = tbD (oneB x) := by
  unfold oneS oneB tbD
  simp [List.map_flatMap, List.map_map, Function.comp_def]
theorem oneB_wf (x : Str) : WfT (oneB x) := by
  unfold oneB
  refine ⟨by simp, fun st h => ?_, fun st h e he => ?_⟩
  · rw [List.mem_singleton] at h
    subst h
    rfl
  · rw [List.mem_singleton] at h
    subst h
    simp at he
    rcases he with he | he | he | he | he | he | he | he | he | he | he | he | he | he | he | he | he | he | he | he | he | he | he | he | he | he | he <;> (subst he; simp)
def voteB : List (List (Bool × Int)) := [reps 9 [(false, 1), (false, 0), (false, 1)], reps 9 [(true, 0), (false, 0), (true, 0)]]
def mostB : List (List (Bool × Int)) := [reps 9 [(false, 2), (false, 1), (false, 2)], reps 9 [(false, 1), (false, 1), (false, 1)], reps 9 [(true, 1), (false, 1), (true, 1)]]
theorem voteB_wf : WfT voteB := ⟨by decide, by decide, by decide⟩
theorem mostB_wf : WfT mostB := ⟨by decide, by decide, by decide⟩
abbrev names10 : List Str := ["first", "last", "begins", "ends", "cover", "inner", "least", "ranked", "vote", "most"]
theorem told_tb {z : Str} (h : z ∈ names10) : ∃ tb, toldT z = some (tbD tb) ∧ WfT tb ∧ tb.length ≤ 3 := by
  simp only [names10, List.mem_cons, List.not_mem_nil, or_false] at h
  rcases h with rfl | rfl | rfl | rfl | rfl | rfl | rfl | rfl | rfl | rfl
  · exact ⟨oneB "takes_never", by rw [← oneB_D]; rfl, oneB_wf _, by decide⟩
  · exact ⟨oneB "takes_always", by rw [← oneB_D]; rfl, oneB_wf _, by decide⟩
  · exact ⟨oneB "takes_begins", by rw [← oneB_D]; rfl, oneB_wf _, by decide⟩
  · exact ⟨oneB "takes_ends", by rw [← oneB_D]; rfl, oneB_wf _, by decide⟩
  · exact ⟨oneB "takes_cover", by rw [← oneB_D]; rfl, oneB_wf _, by decide⟩
  · exact ⟨oneB "takes_inner", by rw [← oneB_D]; rfl, oneB_wf _, by decide⟩
  · exact ⟨oneB "takes_least", by rw [← oneB_D]; rfl, oneB_wf _, by decide⟩
  · exact ⟨oneB "takes_ranked", by rw [← oneB_D]; rfl, oneB_wf _, by decide⟩
  · exact ⟨voteB, rfl, voteB_wf, by decide⟩
  · exact ⟨mostB, rfl, mostB_wf, by decide⟩
theorem IsTank.mono {m n : Nat} {t : O} (h : IsTank m t) (l : m ≤ n) : IsTank n t := by
  obtain ⟨big, mx, cur, h1, h2, h3, h4, h5, h6⟩ := h
  exact ⟨big, mx, cur, h1, h2, h3, h4, h5, by omega⟩
theorem tdraw {Γ : List S} {κ : O → List S → Prop} {Ex : Xk} {fe : SE} {i m : Nat} {q : Option Nat} {t : O} {n : Int} (hi : Γ[i]? = some (.o q t)) (hfe : ∀ κ Ex, κ (.leaf (.int n)) Γ → fe Γ κ Ex) (tk : IsTank m t) (hm : m < 2 ^ 40) (h0 : 0 < n) (h1 : n < 2 ^ 40)
    (h : ∀ r t', 0 ≤ r → r < n → IsTank (m + 1) t' → κ (.leaf (.int r)) (Γ.set i (.o q t'))) : sCallN 2 c_tank_draw (aCons (aV i) (aCons (aE fe) aNil)) Γ κ Ex :=
  callD (as := [.val (.int n)]) (ds := [.int n]) hi (fun κ h => ⟨⟨_, hi, by simp⟩, hfe _ _ h⟩) ⟨rfl, trivial⟩ rfl fun K E hK hE => ⟨m, tk, hm, h0, h1, fun r t' r0 r1 tk' => hK _ _ (h r t' r0 r1 tk')⟩
theorem tdrawV {Γ : List S} {κ : O → List S → Prop} {Ex : Xk} {i j m : Nat} {q : Option Nat} {t : O} {n : Int} (hi : Γ[i]? = some (.o q t)) (hj : Γ[j]? = some (.v (.int n))) (tk : IsTank m t) (hm : m < 2 ^ 40) (h0 : 0 < n) (h1 : n < 2 ^ 40)
    (h : ∀ r t', 0 ≤ r → r < n → IsTank (m + 1) t' → κ (.leaf (.int r)) (Γ.set i (.o q t'))) : sCallN 2 c_tank_draw (aCons (aV i) (aCons (aV j) aNil)) Γ κ Ex :=
  callD (as := [.slot j]) (ds := [.int n]) hi (fun κ h => ⟨⟨_, hi, by simp⟩, ⟨_, hj, by simp⟩, h⟩) ⟨hj, trivial⟩ rfl fun K E hK hE => ⟨m, tk, hm, h0, h1, fun r t' r0 r1 tk' => hK _ _ (h r t' r0 r1 tk')⟩
theorem tpickV {Γ : List S} {κ : O → List S → Prop} {Ex : Xk} {i j m : Nat} {q : Option Nat} {t : O} {xs : List D} (hi : Γ[i]? = some (.o q t)) (hj : Γ[j]? = some (.v (.lst xs))) (tk : IsTank m t) (hm : m < 2 ^ 40) (h0 : 0 < xs.length) (h1 : xs.length < 2 ^ 40)
    (h : ∀ d t', d ∈ xs → IsTank (m + 1) t' → κ (.leaf d) (Γ.set i (.o q t'))) : sCallN 2 c__law_pick (aCons (aV i) (aCons (aV j) aNil)) Γ κ Ex :=
  callD (as := [.slot j]) (ds := [.lst xs]) hi (fun κ h => ⟨⟨_, hi, by simp⟩, ⟨_, hj, by simp⟩, h⟩) ⟨hj, trivial⟩ rfl fun K E hK hE => ⟨m, tk, hm, h0, h1, fun r t' r0 tk' => hK _ _ (h r t' r0 tk')⟩
theorem tpick {Γ : List S} {κ : O → List S → Prop} {Ex : Xk} {fe : SE} {i m : Nat} {q : Option Nat} {t : O} {xs : List D} (hi : Γ[i]? = some (.o q t)) (hfe : ∀ (κ : O → List S → Prop) Ex, (∀ t, t.fz = .lst xs → κ t Γ) → fe Γ κ Ex) (tk : IsTank m t) (hm : m < 2 ^ 40) (h0 : 0 < xs.length) (h1 : xs.length < 2 ^ 40)
    (h : ∀ d t', d ∈ xs → IsTank (m + 1) t' → κ (.leaf d) (Γ.set i (.o q t'))) : sCallN 2 c__law_pick (aCons (aV i) (aCons (aE fe) aNil)) Γ κ Ex :=
  callD (as := [.val (.lst xs)]) (ds := [.lst xs]) hi (fun κ h => ⟨⟨_, hi, by simp⟩, hfe _ _ fun t e => by rw [e]; exact h⟩) ⟨rfl, trivial⟩ rfl fun K E hK hE => ⟨m, tk, hm, h0, h1, fun r t' r0 tk' => hK _ _ (h r t' r0 tk')⟩
/-- a call whose operand changes things -/
theorem call_1e {c fe : SE} {Γ : List S} {κ : O → List S → Prop} {Ex : Xk} (h : fe Γ (fun t Γ1 => sCallN 1 c (aCons (aE (sC t.fz)) aNil) Γ1 κ Ex) Ex) : sCallN 1 c (aCons (aE fe) aNil) Γ κ Ex := h
/-- a comprehension of things, by an invariant -/
theorem compGoL_all {g : SG} {f : SE} {vs : List Nat} {ds : List D} {Γ0 : List S} {κ : List O → List S → Prop} (I : Nat → List S → Prop) (A : O → Prop)
    (turn : ∀ i d, ds[i]? = some d → ∀ Γ, I i Γ → ∀ (Y : O → List S → Prop), (∀ y Γ', I (i + 1) Γ' → A y → Y y Γ') → g d Γ fun Γ2 => f Γ2 (fun t Γ3 => Y t (clr vs Γ3)) noX)
    (start : I 0 Γ0) (fin : ∀ ys Γ', I ds.length Γ' → (∀ y ∈ ys, A y) → ys.length = ds.length → κ ys Γ') : compGoL g cYes f vs ds Γ0 κ := by
  have go : ∀ (es : List D) (i : Nat) (Γ : List S) (κ : List O → List S → Prop), (∀ j, es[j]? = ds[i + j]?) → i + es.length = ds.length → I i Γ → (∀ ys Γ', I ds.length Γ' → (∀ y ∈ ys, A y) → ys.length = es.length → κ ys Γ') → compGoL g cYes f vs es Γ κ := by
    intro es
    induction es with
    | nil => intro i Γ κ _ hl h fin; exact fin [] Γ (by rw [← hl]; exact h) (fun _ h => nomatch h) rfl
    | cons d es ih =>
      intro i Γ κ hj hl h fin
      unfold compGoL
      have hj' : ∀ j, es[j]? = ds[i + 1 + j]? := fun j => by
        have := hj (j + 1)
        rw [show i + 1 + j = i + (j + 1) by omega]
        simpa using this
      have hl' : i + 1 + es.length = ds.length := by rw [← hl, List.length_cons]; omega
      exact turn i d (by have := hj 0; simpa using this.symm) Γ h (fun y Γ => compGoL g cYes f vs es Γ fun ys Γ4 => κ (y :: ys) Γ4) fun y Γ' h' ay =>
        ih (i + 1) Γ' _ hj' hl' h' fun ys Γ2 i2 ays hle => fin (y :: ys) Γ2 i2 (fun z hz => (List.mem_cons.mp hz).elim (fun e => e ▸ ay) (ays z)) (by rw [List.length_cons, List.length_cons, hle])
  exact go ds 0 Γ0 κ (fun j => by rw [Nat.zero_add]) (by rw [Nat.zero_add]) start fin
theorem compGoL_map {g : SG} {f : SE} {vs : List Nat} {Γ0 : List S} (r : D → O) : ∀ {ds : List D} {κ : List O → List S → Prop},
    (∀ d ∈ ds, ∀ (Y : O → List S → Prop), Y (r d) Γ0 → g d Γ0 fun Γ1 => f Γ1 (fun t Γ3 => Y t (clr vs Γ3)) noX) → κ (ds.map r) Γ0 → compGoL g cYes f vs ds Γ0 κ
  | [], κ, _, h => h
  | d :: ds, κ, hs, h => by
    unfold compGoL
    exact hs d List.mem_cons_self (fun y Γ => compGoL g cYes f vs ds Γ fun ys Γ4 => κ (y :: ys) Γ4) (compGoL_map r (fun e he => hs e (List.mem_cons_of_mem _ he)) h)
theorem exMap {α β : Type} {f : β → α} {Q : β → Prop} : ∀ {ys : List α}, (∀ y ∈ ys, ∃ e, y = f e ∧ Q e) → ∃ es : List β, ys = es.map f ∧ ∀ e ∈ es, Q e
  | [], _ => ⟨[], rfl, fun _ h => nomatch h⟩
  | y :: ys, h => by
    obtain ⟨e, rfl, q⟩ := h y List.mem_cons_self
    obtain ⟨es, rfl, qs⟩ := exMap fun z hz => h z (List.mem_cons_of_mem _ hz)
    exact ⟨e :: es, rfl, fun z hz => (List.mem_cons.mp hz).elim (fun z => z ▸ q) (qs z)⟩
/-- an entry of a table of n states -/
def IsEn (n : Int) (e : Bool × Int) : Prop := 0 ≤ e.2 ∧ e.2 < n
def lnO (st : List (Bool × Int)) : O := .ls (st.map fun e => entD e.1 e.2)
def lnsO (tb : List (List (Bool × Int))) : O := .ll (tb.map lnO)
theorem who_of {d : D} (h : d ∈ [D.str "old", D.str "new"]) : ∃ b : Bool, d = .str (if b then "new" else "old") := by
  simp at h
  rcases h with rfl | rfl
  · exact ⟨false, rfl⟩
  · exact ⟨true, rfl⟩
theorem lns_get {tb : List (List (Bool × Int))} {c : Nat} (h : c < tb.length) : (tb.map lnO)[c]? = some (.ls ((tb[c]).map fun e => entD e.1 e.2)) := by
  rw [List.getElem?_map, List.getElem?_eq_getElem h]; rfl
theorem lns_set {tb : List (List (Bool × Int))} {c k : Nat} (h : c < tb.length) (e : Bool × Int) : (tb.map lnO).set c (.ls (((tb[c]).map fun e => entD e.1 e.2).set k (entD e.1 e.2))) = (tb.set c ((tb[c]).set k e)).map lnO := by
  rw [List.map_set]
  congr 1
  show O.ls _ = O.ls _
  rw [List.map_set]
theorem WfT.set {tb : List (List (Bool × Int))} (w : WfT tb) {c k : Nat} (h : c < tb.length) {e : Bool × Int} (he : IsEn tb.length e) : WfT (tb.set c ((tb[c]).set k e)) := by
  refine ⟨by rw [List.length_set]; exact w.ne, fun st hst => ?_, fun st hst x hx => ?_⟩
  · rcases List.mem_or_eq_of_mem_set hst with hst | rfl
    · exact w.len _ hst
    · rw [List.length_set]; exact w.len _ (List.getElem_mem h)
  · rw [List.length_set]
    rcases List.mem_or_eq_of_mem_set hst with hst | rfl
    · exact w.nx _ hst x hx
    · rcases List.mem_or_eq_of_mem_set hx with hx | rfl
      · exact w.nx _ (List.getElem_mem h) x hx
      · exact he
def c__law_table : SE := fun Γ κ _ => match Γ with | [.o (some 0) t] => (∃ m, IsTank m t ∧ m < 2 ^ 38 ∧ ∀ tb t', WfT tb → tb.length ≤ 3 → IsTank (m + 300) t' → κ (.leaf (tbD tb)) [.o (some 0) t']) | _ => False
/-! _law_piece -/
structure Sm (p : Int × List D × Bool) : Prop where
  b0 : 0 ≤ p.1
  b1 : p.1 < 5000
  len : p.2.1.length ≤ 5
  its : ∀ d ∈ p.2.1, d = .non ∨ ∃ i : Int, d = .int i ∧ 0 ≤ i ∧ i ≤ 1000000
theorem Sm.pc {p : Int × List D × Bool} (s : Sm p) : Pc p := ⟨Nat.le_trans s.len (by decide), fun d hd => (s.its d hd).imp id fun ⟨i, e, _⟩ => ⟨i, e⟩⟩
def c__law_piece : SE := fun Γ κ _ => match Γ with | [.o (some 0) t] => (∃ m, IsTank m t ∧ m < 2 ^ 39 ∧ ∀ p t', Sm p → p.1 ≤ 4 → IsTank (m + 10) t' → κ (.leaf (pcD p)) [.o (some 0) t']) | _ => False
/-! _law_row -/
def c__law_row : SE := fun Γ κ _ => match Γ with | [.o (some 0) t, .v (.int n)] => (∃ m, IsTank m t ∧ m < 2 ^ 38 ∧ 0 ≤ n ∧ n ≤ 9 ∧ ∀ (ps : List (Int × List D × Bool)) t', (ps.length : Int) ≤ n → (∀ p ∈ ps, Sm p ∧ p.1 ≤ 4) → IsTank (m + 101) t' → κ (.leaf (.tup (ps.map pcD))) [.o (some 0) t', .v (.int n)]) | _ => False
/-! _law_end -/
def c__law_end : SE := c_end_of
/-! _law_value -/
def c__law_value : SE := c_value_at
/-! _law_sign -/
def c__law_sign : SE := c_compared
/-! _law_run -/
theorem ovs_snoc {q : Int} {p : Int × List D × Bool} : ∀ {xs : List (Int × List D × Bool)} {j : Nat}, ovs q j (xs ++ [p]) = ovs q j xs ++ (if isN (vAt p q) = true then [] else [j + xs.length])
  | [], j => by simp [ovs]
  | x :: xs, j => by
    rw [List.cons_append, ovs, ovs, ovs_snoc, List.length_cons, show j + 1 + xs.length = j + (xs.length + 1) by omega]
    by_cases h : isN (vAt x q) = true
    · rw [if_pos h, if_pos h]
    · rw [if_neg h, if_neg h, List.cons_append]
theorem take_snoc {α : Type} {l : List α} {i : Nat} (h : i < l.length) : l.take (i + 1) = l.take i ++ [l[i]] := by
  rw [List.take_succ, List.getElem?_eq_getElem h]; rfl
@[simp] theorem rdK_ls0 {Γ : List S} {n : Nat} {xs : List D} {κ : D → Prop} (h : Γ[n]? = some (.o none (.ls xs))) : rdK Γ (.slot n) κ = κ (.lst xs) := rdK_ls h
def lastH (h : Option (Nat × Nat)) (xs : List (Nat × Nat × Nat)) : Option (Nat × Nat) := match xs.getLast? with
  | none => h
  | some x => some x.2
theorem lastH_cons {h : Option (Nat × Nat)} {x : Nat × Nat × Nat} {xs : List (Nat × Nat × Nat)} : lastH h (x :: xs) = lastH (some x.2) xs := by
  unfold lastH
  rw [List.getLast?_cons]
  cases xs.getLast? <;> rfl
theorem stp_snoc {tb : List (List (Bool × Int))} {ps : List (Int × List D × Bool)} {q : Int} {k : Nat} : ∀ {ks : List Nat} {h : Option (Nat × Nat)}, stp tb ps q h (ks ++ [k]) = stp tb ps q h ks ++ [(k, nxH tb ps q (lastH h (stp tb ps q h ks)) k)]
  | [], h => rfl
  | a :: ks, h => by rw [List.cons_append, stp, stp, stp_snoc, List.cons_append, lastH_cons]
theorem stp_ok {tb : List (List (Bool × Int))} {ps : List (Int × List D × Bool)} {q : Int} (w : WfT tb) : ∀ {ks : List Nat} {h : Option (Nat × Nat)}, (∀ k ∈ ks, Ov ps q k) → HdOk tb ps q h → ∀ x ∈ stp tb ps q h ks, Ov ps q x.2.1 ∧ x.2.2 < tb.length
  | [], _, _, _, x, hx => by simp [stp] at hx
  | k :: ks, h, hk, ho, x, hx => by
    have n := ho.nx w (hk k List.mem_cons_self)
    unfold stp at hx
    rcases List.mem_cons.mp hx with rfl | hx
    · exact n _ _ rfl
    · exact stp_ok w (fun k hk' => hk k (List.mem_cons_of_mem _ hk')) n x hx
theorem ovs_take {ps : List (Int × List D × Bool)} {q : Int} {i k : Nat} (pp : ∀ p ∈ ps, Pc p) (h : k ∈ ovs q 0 (ps.take i)) : Ov ps q k := by
  obtain ⟨_, p, h2, h3⟩ := ovs_mem h
  rw [Nat.sub_zero, List.getElem?_take] at h2
  split at h2
  · rcases vAt_is (pp p (List.mem_of_getElem? h2)) q with e | ⟨i, e⟩
    · rw [e] at h3; cases h3
    · exact ⟨p, i, h2, e⟩
  · cases h2
def c__law_run : SE := c_steps_at
/-! _law_read -/
def c__law_read : SE := c_value_read
/-! _law_right -/
structure RowS (n : Nat) (ps : List (Int × List D × Bool)) : Prop where
  len : ps.length ≤ n
  sm : ∀ p ∈ ps, Sm p
theorem RowS.ok {n : Nat} {ps : List (Int × List D × Bool)} (r : RowS n ps) (h : n ≤ 5000) : RowOk ps := ⟨Nat.le_trans r.len h, fun p hp => (r.sm p hp).pc⟩
theorem vAt_sm {p : Int × List D × Bool} (s : Sm p) (q : Int) : (vAt p q).sm = true ∧ (vAt p q).dep = 0 ∧ (vAt p q).wt = 64 := by
  unfold vAt
  split
  · rename_i hh
    have : (q - p.1).toNat < p.2.1.length := by omega
    rw [List.getD_eq_getElem?_getD, List.getElem?_eq_getElem this]
    rcases s.its _ (List.getElem_mem this) with e | ⟨i, e, i0, i1⟩
    · simp only [Option.getD_some, e]; exact ⟨rfl, rfl, rfl⟩
    · simp only [Option.getD_some, e]
      exact ⟨decide_eq_true (by omega), rfl, rfl⟩
  · exact ⟨rfl, rfl, rfl⟩
theorem stp_fst {tb : List (List (Bool × Int))} {ps : List (Int × List D × Bool)} {q : Int} : ∀ {ks : List Nat} {h : Option (Nat × Nat)}, ∀ x ∈ stp tb ps q h ks, x.1 ∈ ks
  | [], _, x, hx => by simp [stp] at hx
  | k :: ks, h, x, hx => by
    unfold stp at hx
    rcases List.mem_cons.mp hx with rfl | hx
    · exact List.mem_cons_self
    · exact List.mem_cons_of_mem _ (stp_fst x hx)
def rdD (tb : List (List (Bool × Int))) (ps : List (Int × List D × Bool)) (q : Int) : D := match ownr tb ps q with | none => .non | some k => vAt (ps.getD k (0, [], false)) q
theorem Ov.lt {ps : List (Int × List D × Bool)} {q : Int} {k : Nat} (h : Ov ps q k) : k < ps.length := by
  obtain ⟨p, v, h1, _⟩ := h
  exact (List.getElem?_eq_some_iff.mp h1).1
theorem right_ok {tb : List (List (Bool × Int))} {ps : List (Int × List D × Bool)} {q : Int} (wt : WfT tb) (lt : tb.length ≤ 3) {n : Nat} (r : RowS n ps) (hn : n ≤ 5000) : okRepr (.lst [.tup ((stp tb ps q none (ovs q 0 ps)).map stepD), onD (ownr tb ps q), rdD tb ps q]) := by
  have ro := r.ok hn
  have hok := stp_ok wt (fun k hk => ovs_Ov ro.pc hk) (fun _ _ (e : (none : Option (Nat × Nat)) = some _) => by cases e) (ks := ovs q 0 ps)
  have hk : ∀ x ∈ stp tb ps q none (ovs q 0 ps), x.1 < ps.length := fun x hx => (ovs_Ov ro.pc (stp_fst x hx)).lt
  have hl : (stp tb ps q none (ovs q 0 ps)).length ≤ 5000 := by rw [stp_len]; exact Nat.le_trans ovs_len ro.len
  have hw : ∀ o, ownr tb ps q = some o → Ov ps q o := fun o => ownr_Ov wt ro
  have hr : (rdD tb ps q).sm = true ∧ (rdD tb ps q).dep = 0 ∧ (rdD tb ps q).wt = 64 := by
    unfold rdD
    cases e : ownr tb ps q with
    | none => exact ⟨rfl, rfl, rfl⟩
    | some o =>
      obtain ⟨p, v, h1, _⟩ := hw o e
      simp only
      rw [List.getD_eq_getElem?_getD, h1]
      exact vAt_sm (r.sm p (List.mem_of_getElem? h1)) q
  have ho : (onD (ownr tb ps q)).sm = true ∧ (onD (ownr tb ps q)).dep = 0 ∧ (onD (ownr tb ps q)).wt = 64 := by
    cases e : ownr tb ps q with
    | none => exact ⟨rfl, rfl, rfl⟩
    | some o =>
      have := (hw o e).lt
      have := ro.len
      exact ⟨decide_eq_true (by omega), rfl, rfl⟩
  have hrl := ro.len
  generalize stp tb ps q none (ovs q 0 ps) = xs at hok hk hl ⊢
  have sx : sms (xs.map stepD) = true := sms_of fun d hd => by
    obtain ⟨x, hx, rfl⟩ := List.mem_map.mp hd
    have h1 := hk x hx
    have h2 := (hok x hx).1.lt
    have h3 := (hok x hx).2
    simp [stepD, D.sm, sms]
    omega
  have dx : deps (xs.map stepD) ≤ 1 := deps_le fun d hd => by
    obtain ⟨x, hx, rfl⟩ := List.mem_map.mp hd
    simp [stepD, D.dep, deps]
  have wx := wts_le (k := 201) (xs := xs.map stepD) fun d hd => by
    obtain ⟨x, hx, rfl⟩ := List.mem_map.mp hd
    simp [stepD, D.wt, wts]
  rw [List.length_map] at wx
  refine okRepr_of ?_ ?_ ?_
  · simp [D.sm, sms, sx, ho.1, hr.1]
  · simp [D.dep, deps, ho.2.1, hr.2.1]; omega
  · simp [D.wt, wts, ho.2.2, hr.2.2]; omega
def c__law_right : SE := fun Γ κ _ => ∃ (tb : List (List (Bool × Int))) (ps : List (Int × List D × Bool)) (q : Int), Γ = [.v (tbD tb), .v (.tup (ps.map pcD)), .v (.int q)] ∧ WfT tb ∧ tb.length ≤ 3 ∧ RowS 2000 ps ∧ κ (.leaf (.bl true)) Γ
/-! law -/
theorem tb_vl {tb : List (List (Bool × Int))} (wt : WfT tb) (lt : tb.length ≤ 3) : (tbD tb).sm = true ∧ (tbD tb).dep ≤ 3 ∧ (tbD tb).wt ≤ 100000 := by
  have ent : ∀ st ∈ tb, ∀ e ∈ st, (entD e.1 e.2).sm = true ∧ (entD e.1 e.2).dep ≤ 1 ∧ (entD e.1 e.2).wt ≤ 971 := fun st hs e he => by
    have := wt.nx st hs e he
    have s1 : smS (Str.ofString "new") = true := by decide
    have s2 : smS (Str.ofString "old") = true := by decide
    refine ⟨?_, by simp [entD, D.dep, deps], by simp [entD, D.wt, wts]⟩
    simp [entD, D.sm, sms]
    refine ⟨?_, by omega⟩
    split
    · exact s1
    · exact s2
  have sts : ∀ st ∈ tb, (D.tup (st.map fun e => entD e.1 e.2)).sm = true ∧ (D.tup (st.map fun e => entD e.1 e.2)).dep ≤ 2 ∧ (D.tup (st.map fun e => entD e.1 e.2)).wt ≤ 26274 := fun st hs => by
    have w := wts_le (k := 971) (xs := st.map fun e => entD e.1 e.2) fun d hd => by
      obtain ⟨e, he, rfl⟩ := List.mem_map.mp hd
      exact (ent st hs e he).2.2
    rw [List.length_map, wt.len st hs] at w
    refine ⟨?_, ?_, ?_⟩
    · rw [D.sm]
      exact sms_of fun d hd => by
        obtain ⟨e, he, rfl⟩ := List.mem_map.mp hd
        exact (ent st hs e he).1
    · rw [D.dep]
      exact Nat.succ_le_succ (deps_le fun d hd => by
        obtain ⟨e, he, rfl⟩ := List.mem_map.mp hd
        exact (ent st hs e he).2.1)
    · rw [D.wt]; omega
  have w := wts_le (k := 26274) (xs := tb.map fun st => D.tup (st.map fun e => entD e.1 e.2)) fun d hd => by
    obtain ⟨st, hs, rfl⟩ := List.mem_map.mp hd
    exact (sts st hs).2.2
  rw [List.length_map] at w
  refine ⟨?_, ?_, ?_⟩
  · unfold tbD
    rw [D.sm]
    exact sms_of fun d hd => by
      obtain ⟨e, he, rfl⟩ := List.mem_map.mp hd
      exact (sts e he).1
  · unfold tbD
    rw [D.dep]
    exact Nat.succ_le_succ (deps_le fun d hd => by
      obtain ⟨e, he, rfl⟩ := List.mem_map.mp hd
      exact (sts e he).2.1)
  · unfold tbD
    rw [D.wt]; omega
theorem pc_vl {p : Int × List D × Bool} (s : Sm p) : (pcD p).sm = true ∧ (pcD p).dep ≤ 2 ∧ (pcD p).wt ≤ 600 := by
  have it : ∀ d ∈ p.2.1, d.sm = true ∧ d.dep ≤ 0 ∧ d.wt ≤ 64 := fun d hd => by
    rcases s.its d hd with rfl | ⟨i, rfl, i0, i1⟩
    · exact ⟨rfl, Nat.le_refl _, Nat.le_refl _⟩
    · exact ⟨decide_eq_true (by omega), Nat.le_refl _, Nat.le_refl _⟩
  have h1 := s.b0
  have h2 := s.b1
  have h3 := s.len
  have w := wts_le (k := 64) (xs := p.2.1) fun d hd => (it d hd).2.2
  have sx : sms p.2.1 = true := sms_of fun d hd => (it d hd).1
  have dx : deps p.2.1 ≤ 0 := deps_le fun d hd => (it d hd).2.1
  refine ⟨?_, ?_, ?_⟩
  · simp [pcD, D.sm, sms, sx]; omega
  · simp [pcD, D.dep, deps]; omega
  · simp [pcD, D.wt, wts]; omega
theorem row_vl {n : Nat} {ps : List (Int × List D × Bool)} (r : RowS n ps) : (D.tup (ps.map pcD)).sm = true ∧ (D.tup (ps.map pcD)).dep ≤ 3 ∧ (D.tup (ps.map pcD)).wt ≤ 602 * n + 3 := by
  have w := wts_le (k := 600) (xs := ps.map pcD) fun d hd => by
    obtain ⟨p, hp, rfl⟩ := List.mem_map.mp hd
    exact (pc_vl (r.sm p hp)).2.2
  rw [List.length_map] at w
  have := Nat.mul_le_mul_left 602 r.len
  refine ⟨?_, ?_, ?_⟩
  · rw [D.sm]
    exact sms_of fun d hd => by
      obtain ⟨p, hp, rfl⟩ := List.mem_map.mp hd
      exact (pc_vl (r.sm p hp)).1
  · rw [D.dep]
    exact Nat.succ_le_succ (deps_le fun d hd => by
      obtain ⟨p, hp, rfl⟩ := List.mem_map.mp hd
      exact (pc_vl (r.sm p hp)).2.1)
  · rw [D.wt]; omega
theorem both_ok {tb : List (List (Bool × Int))} {ps : List (Int × List D × Bool)} (wt : WfT tb) (lt : tb.length ≤ 3) (r : RowS 2000 ps) : okRepr (.tup [tbD tb, .tup (ps.map pcD)]) := by
  have h1 := tb_vl wt lt
  have h2 := row_vl r
  refine okRepr_of ?_ ?_ ?_
  · simp only [D.sm, sms]
    have h21 := h2.1
    simp only [D.sm] at h21
    rw [h1.1, h21]; rfl
  · have h22 := h2.2.1
    simp only [D.dep, deps] at h22 ⊢
    omega
  · have h23 := h2.2.2
    simp only [D.wt, wts] at h23 ⊢
    omega
end L3
/-! L3Y: xs.extend(e); max and min of a list of ints; max(xs, default=n) -/
namespace L3
open PySem PySem.Spec PyProof.Rows L2
section
variable {X : Cx} {pa : List V} {pos p p1 p2 p4 p6 : Pos} {a e : Expr} {es : List Expr} {x : Str} {i : Nat} {f : SE} {ga : SA} {gs : SAs}
/-- xs.extend(e), e a list -/
@[simp] def zExt (i : Nat) (ga : SA) : SS := fun k Γ Ex => (∃ s ds, Γ[i]? = some (.o s (.ls ds))) ∧ ga Γ (fun a Γ1 => match a with
  | .val d => ∃ j ds ys, d = .lst ys ∧ Γ1[i]? = some (.o j (.ls ds)) ∧ ds.length + ys.length ≤ sizeLine ∧ k.nx (Γ1.set i (.o j (.ls (ds ++ ys))))
  | .slot _ => False) Ex
theorem sj_ext (hp : PE X (.Name x p1) (tVar i)) {ga : SA} (ha : AJ X pa a ga)
    (hline : (p4.endLine == p6.line) = true := by rfl)
    (hbase : attributeBase (.Name x p1) "extend" X.env (eval (.Name x p1) X.env) = eval (.Name x p1) X.env := by rfl)
    (hfew : ((backTo p6 (starEach [a] X.env)).all (fun x => !x.1) && (backToKw p6 (keywordEach [] X.env)).all (fun x => x.1.isSome)
      && decide (([a] : List Expr).length + ([] : List Keyword).length + (if ([] : List Keyword).isEmpty then 0 else 1) < 30)) = true := by rfl)
    (hse : starEach [a] X.env = (false, eval a X.env) :: starEach [] X.env := by rfl)
    (hs : swapsWith (.Call (.Attribute (.Name x p1) "extend" p4) [a] [] p6) none pos.line X.env = pure false := by rfl) :
    SJ X pa (.Expr (.Call (.Attribute (.Name x p1) "extend" p4) [a] [] p6) pos) (zExt i ga) := ⟨fun W tk =>
  PS.imp (ps_expr (pe_bm PySem.F.plainAttrs_list PySem.F.slot_list_extend PySem.F.type_list_extend mt_extend hp (pa_cons (ha.run W tk) pa_nil hse) hbase hfew hline hse) hs) fun D σ H ⟨F, Γ, R, Ex, k, o, xl, ⟨⟨s0, ds0, e0⟩, q⟩, n, _⟩ => by
    obtain ⟨l, vs, ev, hl, rp, hR⟩ := o.ls e0
    refine ⟨_, ev, .inl ⟨rfl, _, SqL.of hl⟩, F, Γ, R, Ex, _, o, xl σ, q, fun ar Γ1 h1 v F1 H1 R1 o1 s1 a1 => ?_⟩
    cases ar with
    | slot _ => exact h1.elim
    | val d =>
      obtain ⟨j, ds, ys, rfl, e1, hsz, h2⟩ := h1
      obtain ⟨l', vs', ev', hl', rp', hR'⟩ := o1.ls e1
      rw [ev] at ev'
      cases ev'
      have a1 : Rp X.K F1 v (.lst ys) := a1
      cases a1 with
      | lst q1 q2 =>
        refine ⟨l, _, vs', _, rfl, rfl, hl', o1.sub _ _ q1, by rw [rp'.length, q2.length]; exact hsz, ?_⟩
        obtain ⟨o3, s3⟩ := o1.updI (p := l) (t' := .ls (ds ++ ys)) e1 ev (by rw [hR']; simp) (by
          rw [hR']
          exact .ls upd_same (rp'.append q2))
        exact n _ h2 _ _ _ _ o3 (s1.trans s3)⟩
/-! max, min of one list of ints -/
def intL : List D → Option (List Int)
  | [] => some []
  | .int i :: xs => (intL xs).map (i :: ·)
  | _ :: _ => none
@[simp] theorem intL_map : ∀ ns : List Int, intL (ns.map D.int) = some ns
  | [] => rfl
  | n :: ns => by rw [List.map_cons, intL, intL_map ns]; rfl
theorem intL_rp {K : PySem.W.Frag} {F : Hp} : ∀ {ds : List D} {vs : List V} {ns : List Int}, intL ds = some ns → RpAll K F vs ds → vs = ns.map V.int
  | [], _, _, h, .nil => by cases h; rfl
  | .int i :: ds, _, ns, h, .cons r rs => by
    rw [intL] at h
    obtain ⟨ms, hm, rfl⟩ := Option.map_eq_some_iff.mp h
    cases r
    rw [intL_rp hm rs]; rfl
  | .non :: _, _, _, h, _ => by cases h
  | .bl _ :: _, _, _, h, _ => by cases h
  | .str _ :: _, _, _, h, _ => by cases h
  | .tup _ :: _, _, _, h, _ => by cases h
  | .lst _ :: _, _, _, h, _ => by cases h
  | .dic _ :: _, _, _, h, _ => by cases h
  | .ref _ :: _, _, _, h, _ => by cases h
  | .ty _ :: _, _, _, h, _ => by cases h
  | .scr _ :: _, _, _, h, _ => by cases h
  | .exc .. :: _, _, _, h, _ => by cases h
  | .fn _ :: _, _, _, h, _ => by cases h
def mxI : List Int → Int
  | [] => 0
  | [x] => x
  | x :: xs => max x (mxI xs)
def mnI : List Int → Int
  | [] => 0
  | [x] => x
  | x :: xs => min x (mnI xs)
theorem mxI_ge : ∀ {ns : List Int}, ∀ n ∈ ns, n ≤ mxI ns
  | [x], n, h => by have : n = x := by simpa using h
                    subst this; exact Int.le_refl _
  | x :: y :: xs, n, h => by
    rw [mxI]
    rcases List.mem_cons.mp h with rfl | h
    · exact Int.le_max_left _ _
    · exact Int.le_trans (mxI_ge n h) (Int.le_max_right _ _)
    · exact fun z => by cases z
theorem mxI_mem : ∀ {ns : List Int}, ns ≠ [] → mxI ns ∈ ns
  | [], h => absurd rfl h
  | [x], _ => by simp [mxI]
  | x :: y :: xs, _ => by
    have ih := mxI_mem (ns := y :: xs) (by simp)
    rw [mxI]
    · by_cases h : x ≤ mxI (y :: xs)
      · rw [Int.max_eq_right h]; exact List.mem_cons_of_mem _ ih
      · rw [Int.max_eq_left (by omega)]; exact List.mem_cons_self
    · exact fun z => by cases z
theorem mxI_eq {ns : List Int} {m : Int} (hm : m ∈ ns) (h : ∀ n ∈ ns, n ≤ m) : m = mxI ns := by
  have h1 := mxI_ge m hm
  have h2 := h _ (mxI_mem (List.ne_nil_of_mem hm))
  omega
theorem mnI_le : ∀ {ns : List Int}, ∀ n ∈ ns, mnI ns ≤ n
  | [x], n, h => by have : n = x := by simpa using h
                    subst this; exact Int.le_refl _
  | x :: y :: xs, n, h => by
    rw [mnI]
    rcases List.mem_cons.mp h with rfl | h
    · exact Int.min_le_left _ _
    · exact Int.le_trans (Int.min_le_right _ _) (mnI_le n h)
    · exact fun z => by cases z
theorem mnI_mem : ∀ {ns : List Int}, ns ≠ [] → mnI ns ∈ ns
  | [], h => absurd rfl h
  | [x], _ => by simp [mnI]
  | x :: y :: xs, _ => by
    have ih := mnI_mem (ns := y :: xs) (by simp)
    rw [mnI]
    · by_cases h : x ≤ mnI (y :: xs)
      · rw [Int.min_eq_left h]; exact List.mem_cons_self
      · rw [Int.min_eq_right (by omega)]; exact List.mem_cons_of_mem _ ih
    · exact fun z => by cases z
theorem mnI_eq {ns : List Int} {m : Int} (hm : m ∈ ns) (h : ∀ n ∈ ns, m ≤ n) : m = mnI ns := by
  have h1 := mnI_le m hm
  have h2 := h _ (mnI_mem (List.ne_nil_of_mem hm))
  omega
def kMaxL : KN := fun ds P => match ds with
  | [.lst xs] => ∃ ns, intL xs = some ns ∧ ns ≠ [] ∧ P (.leaf (.int (mxI ns)))
  | _ => False
def kMinL : KN := fun ds P => match ds with
  | [.lst xs] => ∃ ns, intL xs = some ns ∧ ns ≠ [] ∧ P (.leaf (.int (mnI ns)))
  | _ => False
theorem k_maxL : OpN X pa (rMax X.K) kMaxL := by
  intro F H σ Γ R xs ds P Q o bs h fin
  unfold kMaxL at h
  split at h
  · obtain ⟨ns, hns, hne, h⟩ := h
    cases bs with
    | cons b1 bs =>
      cases bs
      obtain ⟨a, vs, rfl, q1, r1⟩ := b1.sqL o.sub
      rw [intL_rp hns r1] at q1
      exact ⟨a, ns, rfl, q1, List.length_pos_iff.mpr hne, fun m hm hle => by rw [mxI_eq hm hle]; exact fin _ _ (fin_leaf o (.int _) h)⟩
  · exact h.elim
theorem k_minL : OpN X pa (rMin X.K) kMinL := by
  intro F H σ Γ R xs ds P Q o bs h fin
  unfold kMinL at h
  split at h
  · obtain ⟨ns, hns, hne, h⟩ := h
    cases bs with
    | cons b1 bs =>
      cases bs
      obtain ⟨a, vs, rfl, q1, r1⟩ := b1.sqL o.sub
      rw [intL_rp hns r1] at q1
      exact ⟨a, ns, rfl, q1, List.length_pos_iff.mpr hne, fun m hm hle => by rw [mnI_eq hm hle]; exact fin _ _ (fin_leaf o (.int _) h)⟩
  · exact h.elim
/-! max(xs, default=e) -/
theorem ints_reads {h : Heap} : ∀ {ns : List Int} {us : List Value}, Vals (ns.map V.int) us → ReadsAll h us (ns.map PyData.int) []
  | [], _, .nil => .nil
  | n :: ns, _, .cons r rs => by
    obtain ⟨t, rfl⟩ := r
    exact .cons (.int n t) (ints_reads rs)
theorem depth_ints : ∀ ns : List Int, PyData.depthAll (ns.map PyData.int) = 0
  | [] => by rw [List.map_nil, PyData.depthAll]
  | n :: ns => by rw [List.map_cons, PyData.depthAll, depth_ints ns, PyData.depth]; rfl
theorem alike_ints (ns : List Int) : PySem.W.AlikeAll (ns.map PyData.int) := by
  refine ⟨fun x hx y hy => ?_, fun x hx => ?_⟩
  · obtain ⟨a, _, rfl⟩ := List.mem_map.mp hx
    obtain ⟨b, _, rfl⟩ := List.mem_map.mp hy
    rw [PySem.W.alike]
  · obtain ⟨a, _, rfl⟩ := List.mem_map.mp hx
    exact fun z => by cases z
theorem foldl_max_mem : ∀ (ns : List Int) (n : Int), ns.foldl max n ∈ n :: ns
  | [], n => List.mem_cons_self
  | m :: ns, n => by
    rw [List.foldl_cons]
    have h := foldl_max_mem ns (max n m)
    rcases List.mem_cons.mp h with e | h
    · rw [e]
      by_cases c : n ≤ m
      · rw [Int.max_eq_right c]; simp
      · rw [Int.max_eq_left (by omega)]; simp
    · exact List.mem_cons_of_mem _ (List.mem_cons_of_mem _ h)
theorem foldl_max_ge : ∀ (ns : List Int) (n : Int), ∀ x ∈ n :: ns, x ≤ ns.foldl max n
  | [], n, x, h => by have : x = n := by simpa using h
                      rw [this]; exact Int.le_refl _
  | m :: ns, n, x, h => by
    rw [List.foldl_cons]
    have h0 := foldl_max_ge ns (max n m) (max n m) List.mem_cons_self
    rcases List.mem_cons.mp h with rfl | h
    · exact Int.le_trans (Int.le_max_left _ _) h0
    · rcases List.mem_cons.mp h with rfl | h
      · exact Int.le_trans (Int.le_max_right _ _) h0
      · exact foldl_max_ge ns (max n m) x (List.mem_cons_of_mem _ h)
theorem foldl_max (ns : List Int) (n : Int) : ns.foldl max n = mxI (n :: ns) := mxI_eq (foldl_max_mem ns n) (foldl_max_ge ns n)
def tMaxD (K : PySem.W.Frag) (ta tk : TA) : TE := fun σ H Q => ta σ H fun vs H1 => tk σ H1 fun zs H2 => ∃ a ns z, vs = [.ref a] ∧ zs = [z] ∧ SqL K H2 a (ns.map V.int) ∧ (ns = [] → Q z H2) ∧ (ns ≠ [] → Q (.int (mxI ns)) H2)
theorem pe_maxD {ta tk : TA} {kp : Pos} (hc : X.calm = true) (hu : X.A.units + 64 < cLine) (hg : Gl X "max") (hm : X.mg "max" = none) (ha : PA X [e] ta) (hk : PK X [⟨some "default", a, kp⟩] tk)
    (he : backTo pos (starEach [e] X.env) = (false, eval e X.env) :: backTo pos (starEach [] X.env) := by rfl) (hpl : (backTo pos (starEach [e] X.env)).any (·.1) = false := by rfl)
    (hall : (backToKw pos (keywordEach [⟨some "default", a, kp⟩] X.env)).all (·.1.isSome) = true := by rfl) (hnone : (backToKw pos (keywordEach [⟨some "default", a, kp⟩] X.env)).any (·.1.isNone) = false := by rfl)
    (hks : (backToKw pos (keywordEach [⟨some "default", a, kp⟩] X.env)).filterMap (·.1) = [("default" : Str)] := by rfl) : PE X (.Call (.Name "max" p) [e] [⟨some "default", a, kp⟩] pos) (tMaxD X.K ta tk) := by
  refine ⟨fun pins s σ H R I h => ?_⟩
  refine wpAny_Call_Name_kw (ld_blt I hg hm (u := .builtin "max") rfl ?_)
  refine PyProof.Rows.callWith_kw ?_ he hpl hall hnone
  refine thn (ha.run pos pins s σ H _ I h) fun us s1 ⟨vs, H1, I1, r1, q1⟩ => thn (hk.run pos pins s1 σ H1 _ I1 q1) fun ws s2 ⟨zs, H2, I2, r2, q2⟩ => ?_
  rw [hks]
  obtain ⟨ad, ns, z, ex, ez, hq, q3, q4⟩ := q2
  subst ex ez
  obtain ⟨u, rfl, ru⟩ := r2.one
  obtain ⟨its, rv, hl, _⟩ := I2.list hq
  rw [Vals.ref1 r1]
  show wpAny _ _ (call (.builtin "max") [.ref ad] [(Str.ofString "default", u)]) _ _ s2
  refine PySem.W.max_list_default (vs := its.toArray) (xs := ns.map PyData.int) (I2.ok.hd hc) hl.isList (by simpa using ints_reads rv) (alike_ints ns) (by rw [depth_ints]; omega) (fun e0 h' tk hk' => ?_) (fun y ys i v h' tk bs e0 _ rd hk' => ?_)
  · have e1 : ns = [] := by simpa using e0
    exact ⟨z, H2, I2.kept hk', ru, q3 e1⟩
  · cases ns with
    | nil => cases e0
    | cons n ns =>
      simp only [List.map_cons, List.cons.injEq] at e0
      obtain ⟨rfl, rfl⟩ := e0
      rw [PySem.W.maxD_ints, foldl_max] at rd
      cases rd
      exact ⟨.int _, H2, I2.kept hk', ⟨_, rfl⟩, q4 (by simp)⟩
@[simp] def sMaxD (gs : SAs) (ga : SA) : SE := fun Γ κ Ex => gs Γ (fun as Γ1 => ga Γ1 (fun b Γ2 => rdKs Γ2 as fun ds => rdK Γ2 b fun dc => ∃ xs ns c, ds = [.lst xs] ∧ dc = .int c ∧ intL xs = some ns ∧ κ (.leaf (.int (if ns = [] then c else mxI ns))) Γ2) Ex) Ex
theorem ej_maxD {kp : Pos} (hc : X.calm = true) (hu : X.A.units + 64 < cLine) (hg : Gl X "max") (hm : X.mg "max" = none) (ha : AsJ X pa [e] gs) (hb : AJ X pa a ga)
    (he : backTo pos (starEach [e] X.env) = (false, eval e X.env) :: backTo pos (starEach [] X.env) := by rfl) (hpl : (backTo pos (starEach [e] X.env)).any (·.1) = false := by rfl)
    (hall : (backToKw pos (keywordEach [⟨some "default", a, kp⟩] X.env)).all (·.1.isSome) = true := by rfl) (hnone : (backToKw pos (keywordEach [⟨some "default", a, kp⟩] X.env)).any (·.1.isNone) = false := by rfl)
    (hks : (backToKw pos (keywordEach [⟨some "default", a, kp⟩] X.env)).filterMap (·.1) = [("default" : Str)] := by rfl) : EJ X pa (.Call (.Name "max" p) [e] [⟨some "default", a, kp⟩] pos) (sMaxD gs ga) := ⟨fun W tk =>
  PE.imp (pe_maxD hc hu hg hm (ha.run W tk) (pk_cons (hb.run W tk) pk_nil) he hpl hall hnone hks) fun σ H Q ⟨F, Γ, R, Ex, Kc, o, xl, q, k⟩ => ⟨F, Γ, R, Ex, _, o, xl, q, fun as Γ1 h1 vs F1 H1 R1 o1 s1 a1 => ⟨F1, Γ1, R1, Ex, _, o1, xl.step s1, h1, fun b Γ2 h2 v F2 H2 R2 o2 s2 b2 => by
    obtain ⟨ds, bs, h3⟩ := rdKs_ok o2 (a1.mono s2.sub) h2
    obtain ⟨dc, bp, xs, ns, c, rfl, rfl, hn, h4⟩ := rdK_ok o2 b2 h3
    cases bs with
    | cons b1 bs =>
      cases bs
      obtain ⟨ad, ws, rfl, q1, r1⟩ := b1.sqL o2.sub
      rw [intL_rp hn r1] at q1
      refine ⟨ad, ns, v, rfl, rfl, q1, fun e0 => ?_, fun e0 => ?_⟩
      · rw [if_pos e0] at h4
        rw [bp.int]
        exact k _ _ h4 _ F2 H2 R2 [] o2 (s1.trans s2) (.leaf (.int _))
      · rw [if_neg e0] at h4
        exact k _ _ h4 _ F2 H2 R2 [] o2 (s1.trans s2) (.leaf (.int _))⟩⟩⟩
end
end L3
/-! L3S: rows that a table reads alike -/
namespace L3
open PySem PySem.Spec PyProof.Rows L2
abbrev Pi3 := Int × List D × Bool
abbrev pz : Pi3 := (0, [], false)
theorem entA_eq {tb : List (List (Bool × Int))} {s : Nat} {o n o' n' : Pi3} {q q' : Int} (h : entI o' n' q' = entI o n q) : entA tb s o' n' q' = entA tb s o n q := by
  unfold entA
  rw [h]
theorem nxH_sim {tb : List (List (Bool × Int))} {ps ps' : List Pi3} {q q' : Int} {f : Nat → Nat} {h : Option (Nat × Nat)} {k : Nat}
    (hE : ∀ o s, h = some (o, s) → entI (ps'.getD o pz) (ps'.getD k pz) q' = entI (ps.getD (f o) pz) (ps.getD (f k) pz) q) :
    nxH tb ps q (h.map fun x => (f x.1, x.2)) (f k) = (f (nxH tb ps' q' h k).1, (nxH tb ps' q' h k).2) := by
  cases h with
  | none => rfl
  | some os =>
    obtain ⟨o, s⟩ := os
    have e := entA_eq (tb := tb) (s := s) (hE o s rfl)
    show ((if (entA tb s (ps.getD (f o) pz) (ps.getD (f k) pz) q).1 then f k else f o), (entA tb s (ps.getD (f o) pz) (ps.getD (f k) pz) q).2.toNat) = (f (if (entA tb s (ps'.getD o pz) (ps'.getD k pz) q').1 then k else o), (entA tb s (ps'.getD o pz) (ps'.getD k pz) q').2.toNat)
    rw [e]
    by_cases c : (entA tb s (ps.getD (f o) pz) (ps.getD (f k) pz) q).1 = true
    · rw [if_pos c, if_pos c]
    · rw [if_neg c, if_neg c]
theorem nxH_K {tb : List (List (Bool × Int))} {ps : List Pi3} {q : Int} {K : Nat → Prop} {h : Option (Nat × Nat)} {k : Nat} (hk : K k) (hh : ∀ o s, h = some (o, s) → K o) : K (nxH tb ps q h k).1 := by
  cases h with
  | none => exact hk
  | some os =>
    obtain ⟨o, s⟩ := os
    show K (if _ then k else o)
    split
    · exact hk
    · exact hh o s rfl
theorem stp_sim {tb : List (List (Bool × Int))} {ps ps' : List Pi3} {q q' : Int} (f : Nat → Nat) (K : Nat → Prop)
    (hE : ∀ i j, K i → K j → entI (ps'.getD i pz) (ps'.getD j pz) q' = entI (ps.getD (f i) pz) (ps.getD (f j) pz) q) :
    ∀ {ks : List Nat} {h : Option (Nat × Nat)}, (∀ k ∈ ks, K k) → (∀ o s, h = some (o, s) → K o) →
      (stp tb ps' q' h ks).map (fun x => (f x.1, f x.2.1, x.2.2)) = stp tb ps q (h.map fun x => (f x.1, x.2)) (ks.map f)
  | [], _, _, _ => rfl
  | k :: ks, h, hk, hh => by
    have k0 := hk k List.mem_cons_self
    have n1 := nxH_sim (tb := tb) (ps := ps) (ps' := ps') (q := q) (q' := q') (f := f) (h := h) (k := k) fun o s e => hE o k (hh o s e) k0
    have n2 := nxH_K (tb := tb) (ps := ps') (q := q') (K := K) (h := h) k0 hh
    rw [stp, List.map_cons, List.map_cons, stp, n1, stp_sim f K hE (fun k hk' => hk k (List.mem_cons_of_mem _ hk')) (fun o s e => by
      have : nxH tb ps' q' h k = (o, s) := Option.some.inj e
      rw [this] at n2
      exact n2)]
    rfl
theorem stp_K {tb : List (List (Bool × Int))} {ps : List Pi3} {q : Int} {K : Nat → Prop} : ∀ {ks : List Nat} {h : Option (Nat × Nat)}, (∀ k ∈ ks, K k) → (∀ o s, h = some (o, s) → K o) → ∀ x ∈ stp tb ps q h ks, K x.1 ∧ K x.2.1
  | [], _, _, _, x, hx => by simp [stp] at hx
  | k :: ks, h, hk, hh, x, hx => by
    have n := nxH_K (tb := tb) (ps := ps) (q := q) (hk k List.mem_cons_self) hh
    unfold stp at hx
    rcases List.mem_cons.mp hx with rfl | hx
    · exact ⟨hk _ List.mem_cons_self, n⟩
    · exact stp_K (fun k hk' => hk k (List.mem_cons_of_mem _ hk')) (fun o s e => by
        have : nxH tb ps q h k = (o, s) := Option.some.inj e
        rw [this] at n
        exact n) x hx
theorem ovs_lt {q : Int} {ps : List Pi3} {k : Nat} (h : k ∈ ovs q 0 ps) : k < ps.length := by
  obtain ⟨_, p, h2, _⟩ := ovs_mem h
  rw [Nat.sub_zero] at h2
  exact (List.getElem?_eq_some_iff.mp h2).1
theorem ovs_zs {q q' : Int} : ∀ {zs : List (Pi3 × Pi3)} {k : Nat}, (∀ z ∈ zs, isN (vAt z.2 q') = isN (vAt z.1 q)) → ovs q' k (zs.map (·.2)) = ovs q k (zs.map (·.1))
  | [], _, _ => rfl
  | z :: zs, k, h => by
    rw [List.map_cons, List.map_cons, ovs, ovs, h z List.mem_cons_self, ovs_zs fun y hy => h y (List.mem_cons_of_mem _ hy)]
theorem zs_get {zs : List (Pi3 × Pi3)} {i : Nat} {z : Pi3 × Pi3} (h : zs[i]? = some z) : (zs.map (·.1)).getD i pz = z.1 ∧ (zs.map (·.2)).getD i pz = z.2 := by
  rw [List.getD_eq_getElem?_getD, List.getD_eq_getElem?_getD, List.getElem?_map, List.getElem?_map, h]
  exact ⟨rfl, rfl⟩
theorem vAt_pz {q : Int} : vAt pz q = .non := by
  unfold vAt
  split
  · rfl
  · rfl
/-- pieces one beside the other that are read alike -/
structure Alk (zs : List (Pi3 × Pi3)) (q q' : Int) (g : D → D) : Prop where
  g0 : g .non = .non
  hv : ∀ z ∈ zs, vAt z.2 q' = g (vAt z.1 q)
  hg : ∀ z ∈ zs, isN (g (vAt z.1 q)) = isN (vAt z.1 q)
  hE : ∀ z ∈ zs, ∀ y ∈ zs, isN (vAt z.1 q) = false → isN (vAt y.1 q) = false → entI z.2 y.2 q' = entI z.1 y.1 q
section
variable {zs : List (Pi3 × Pi3)} {q q' : Int} {g : D → D} {tb : List (List (Bool × Int))}
theorem Alk.ovs (a : Alk zs q q' g) : ovs q' 0 (zs.map (·.2)) = ovs q 0 (zs.map (·.1)) := ovs_zs fun z hz => by rw [a.hv z hz, a.hg z hz]
theorem Alk.stp (a : Alk zs q q' g) : stp tb (zs.map (·.2)) q' none (L3.ovs q' 0 (zs.map (·.2))) = stp tb (zs.map (·.1)) q none (L3.ovs q 0 (zs.map (·.1))) := by
  have h := stp_sim (tb := tb) (ps := zs.map (·.1)) (ps' := zs.map (·.2)) (q := q) (q' := q') id (fun i => ∃ z, zs[i]? = some z ∧ isN (vAt z.1 q) = false) (fun i j ⟨z, hz, nz⟩ ⟨y, hy, ny⟩ => by
    rw [id, id, (zs_get hz).1, (zs_get hz).2, (zs_get hy).1, (zs_get hy).2]
    exact a.hE z (List.mem_of_getElem? hz) y (List.mem_of_getElem? hy) nz ny) (ks := L3.ovs q' 0 (zs.map (·.2))) (h := none) (fun k hk => by
    rw [a.ovs] at hk
    obtain ⟨_, p, h2, h3⟩ := ovs_mem hk
    rw [Nat.sub_zero, List.getElem?_map] at h2
    obtain ⟨z, hz, rfl⟩ := Option.map_eq_some_iff.mp h2
    exact ⟨z, hz, h3⟩) (fun _ _ e => by cases e)
  rw [List.map_id] at h
  have e : (fun x : Nat × Nat × Nat => (id x.1, id x.2.1, x.2.2)) = id := rfl
  rw [e, List.map_id] at h
  rw [h, a.ovs]
  rfl
theorem Alk.ownr (a : Alk zs q q' g) : ownr tb (zs.map (·.2)) q' = ownr tb (zs.map (·.1)) q := by
  unfold L3.ownr
  rw [a.stp]
theorem Alk.rdD (a : Alk zs q q' g) : rdD tb (zs.map (·.2)) q' = g (rdD tb (zs.map (·.1)) q) := by
  unfold L3.rdD
  rw [a.ownr]
  cases L3.ownr tb (zs.map (·.1)) q with
  | none => exact a.g0.symm
  | some k =>
    simp only
    cases e : zs[k]? with
    | none =>
      have e1 : (zs.map (·.1)).getD k pz = pz := by rw [List.getD_eq_getElem?_getD, List.getElem?_map, e]; rfl
      have e2 : (zs.map (·.2)).getD k pz = pz := by rw [List.getD_eq_getElem?_getD, List.getElem?_map, e]; rfl
      rw [e1, e2, vAt_pz, vAt_pz, a.g0]
    | some z =>
      rw [(zs_get e).1, (zs_get e).2]
      exact a.hv z (List.mem_of_getElem? e)
end
def toldD (tb : List (List (Bool × Int))) (ps : List Pi3) (q : Int) : D := .tup [.tup ((stp tb ps q none (ovs q 0 ps)).map stepD), onD (ownr tb ps q), rdD tb ps q]
theorem told_ok {tb : List (List (Bool × Int))} {ps : List (Int × List D × Bool)} {q : Int} (wt : WfT tb) (lt : tb.length ≤ 3) {n : Nat} (r : RowS n ps) (hn : n ≤ 5000) : okRepr (toldD tb ps q) := by
  unfold toldD
  have ro := r.ok hn
  have hok := stp_ok wt (fun k hk => ovs_Ov ro.pc hk) (fun _ _ (e : (none : Option (Nat × Nat)) = some _) => by cases e) (ks := ovs q 0 ps)
  have hk : ∀ x ∈ stp tb ps q none (ovs q 0 ps), x.1 < ps.length := fun x hx => (ovs_Ov ro.pc (stp_fst x hx)).lt
  have hl : (stp tb ps q none (ovs q 0 ps)).length ≤ 5000 := by rw [stp_len]; exact Nat.le_trans ovs_len ro.len
  have hw : ∀ o, ownr tb ps q = some o → Ov ps q o := fun o => ownr_Ov wt ro
  have hr : (rdD tb ps q).sm = true ∧ (rdD tb ps q).dep = 0 ∧ (rdD tb ps q).wt = 64 := by
    unfold rdD
    cases e : ownr tb ps q with
    | none => exact ⟨rfl, rfl, rfl⟩
    | some o =>
      obtain ⟨p, v, h1, _⟩ := hw o e
      simp only
      rw [List.getD_eq_getElem?_getD, h1]
      exact vAt_sm (r.sm p (List.mem_of_getElem? h1)) q
  have ho : (onD (ownr tb ps q)).sm = true ∧ (onD (ownr tb ps q)).dep = 0 ∧ (onD (ownr tb ps q)).wt = 64 := by
    cases e : ownr tb ps q with
    | none => exact ⟨rfl, rfl, rfl⟩
    | some o =>
      have := (hw o e).lt
      have := ro.len
      exact ⟨decide_eq_true (by omega), rfl, rfl⟩
  have hrl := ro.len
  generalize stp tb ps q none (ovs q 0 ps) = xs at hok hk hl ⊢
  have sx : sms (xs.map stepD) = true := sms_of fun d hd => by
    obtain ⟨x, hx, rfl⟩ := List.mem_map.mp hd
    have h1 := hk x hx
    have h2 := (hok x hx).1.lt
    have h3 := (hok x hx).2
    simp [stepD, D.sm, sms]
    omega
  have dx : deps (xs.map stepD) ≤ 1 := deps_le fun d hd => by
    obtain ⟨x, hx, rfl⟩ := List.mem_map.mp hd
    simp [stepD, D.dep, deps]
  have wx := wts_le (k := 201) (xs := xs.map stepD) fun d hd => by
    obtain ⟨x, hx, rfl⟩ := List.mem_map.mp hd
    simp [stepD, D.wt, wts]
  rw [List.length_map] at wx
  refine okRepr_of ?_ ?_ ?_
  · simp [D.sm, sms, sx, ho.1, hr.1]
  · simp [D.dep, deps, ho.2.1, hr.2.1]; omega
  · simp [D.wt, wts, ho.2.2, hr.2.2]; omega
/-! the pieces that cover a place, alone -/
theorem ovs_all {q : Int} : ∀ {xs : List Pi3} {k : Nat}, (∀ p ∈ xs, isN (vAt p q) = false) → ovs q k xs = (List.range xs.length).map (k + ·)
  | [], _, _ => rfl
  | x :: xs, k, h => by
    rw [ovs, if_neg (by rw [h x List.mem_cons_self]; decide), ovs_all fun y hy => h y (List.mem_cons_of_mem _ hy), List.length_cons, List.range_succ_eq_map, List.map_cons, List.map_map]
    congr 1
    apply List.map_congr_left
    intro i _
    show k + 1 + i = k + (i + 1)
    omega
theorem map_range_getD (ks : List Nat) : (List.range ks.length).map (fun k => ks.getD k 0) = ks := by
  apply List.ext_getElem
  · simp
  · intro i h1 h2
    simp at h1
    simp [List.getElem?_eq_getElem h1]
theorem alone_stp {tb : List (List (Bool × Int))} {ps : List Pi3} {q : Int} :
    (stp tb ((ovs q 0 ps).map fun k => ps.getD k pz) q none (ovs q 0 ((ovs q 0 ps).map fun k => ps.getD k pz))).map (fun x => ((ovs q 0 ps).getD x.1 0, (ovs q 0 ps).getD x.2.1 0, x.2.2)) = stp tb ps q none (ovs q 0 ps) := by
  have cov : ∀ k ∈ ovs q 0 ps, isN (vAt (ps.getD k pz) q) = false := fun k hk => by
    obtain ⟨_, p, h2, h3⟩ := ovs_mem hk
    rw [Nat.sub_zero] at h2
    rw [List.getD_eq_getElem?_getD, h2]
    exact h3
  generalize ovs q 0 ps = ks at cov ⊢
  have ov : ovs q 0 (ks.map fun k => ps.getD k pz) = List.range ks.length := by
    rw [ovs_all fun p hp => by obtain ⟨k, hk, rfl⟩ := List.mem_map.mp hp; exact cov k hk]
    simp
  have h := stp_sim (tb := tb) (ps := ps) (ps' := ks.map fun k => ps.getD k pz) (q := q) (q' := q) (fun k => ks.getD k 0) (fun k => k < ks.length) (fun i j hi hj => by
    have e : ∀ i, i < ks.length → (ks.map fun k => ps.getD k pz).getD i pz = ps.getD (ks.getD i 0) pz := fun i hi => by
      rw [List.getD_eq_getElem?_getD, List.getElem?_map, List.getElem?_eq_getElem hi, List.getD_eq_getElem?_getD (l := ks), List.getElem?_eq_getElem hi]
      rfl
    rw [e i hi, e j hj]) (ks := List.range ks.length) (h := none) (fun k hk => List.mem_range.mp hk) (fun _ _ e => by cases e)
  rw [map_range_getD] at h
  rw [ov]
  exact h
theorem alone_ownr {tb : List (List (Bool × Int))} {ps : List Pi3} {q : Int} : ownr tb ps q = (ownr tb ((ovs q 0 ps).map fun k => ps.getD k pz) q).map fun k => (ovs q 0 ps).getD k 0 := by
  unfold ownr
  rw [← alone_stp]
  generalize stp tb ((ovs q 0 ps).map fun k => ps.getD k pz) q none (ovs q 0 ((ovs q 0 ps).map fun k => ps.getD k pz)) = xs
  rw [List.getLast?_map]
  cases xs.getLast? <;> rfl
theorem alone_rdD {tb : List (List (Bool × Int))} {ps : List Pi3} {q : Int} : rdD tb ((ovs q 0 ps).map fun k => ps.getD k pz) q = rdD tb ps q := by
  unfold rdD
  rw [alone_ownr (ps := ps)]
  cases e : ownr tb ((ovs q 0 ps).map fun k => ps.getD k pz) q with
  | none => rfl
  | some k =>
    simp only [Option.map_some]
    by_cases h : k < (ovs q 0 ps).length
    · rw [List.getD_eq_getElem?_getD, List.getElem?_map, List.getElem?_eq_getElem h, List.getD_eq_getElem?_getD (l := ovs q 0 ps), List.getElem?_eq_getElem h]
      rfl
    · exfalso
      unfold ownr at e
      obtain ⟨x, hx, rfl⟩ := Option.map_eq_some_iff.mp e
      have := (stp_K (K := fun k => k < ((ovs q 0 ps).map fun k => ps.getD k pz).length) (fun k hk => ovs_lt hk) (fun _ _ (e : (none : Option (Nat × Nat)) = some _) => by cases e) x (List.mem_of_getLast? hx)).2
      rw [List.length_map] at this
      exact h this
/-! stretched rows -/
/-- strictly rising numbers -/
def Up (ns : List Int) : Prop := ∀ i, i + 1 < ns.length → ns.getD i 0 < ns.getD (i + 1) 0
theorem Up.lt {ns : List Int} (u : Up ns) : ∀ {i j : Nat}, i < j → j < ns.length → ns.getD i 0 < ns.getD j 0 := by
  intro i j h
  induction j with
  | zero => omega
  | succ j ih =>
    intro hj
    have h1 := u j hj
    by_cases e : i = j
    · rw [e]; exact h1
    · have := ih (by omega) (by omega)
      omega
theorem Up.le {ns : List Int} (u : Up ns) {i j : Nat} (h : i ≤ j) (hj : j < ns.length) : ns.getD i 0 ≤ ns.getD j 0 := by
  by_cases e : i = j
  · rw [e]; exact Int.le_refl _
  · exact Int.le_of_lt (u.lt (by omega) hj)
theorem Up.sgn {ns : List Int} (u : Up ns) {i j : Nat} (hi : i < ns.length) (hj : j < ns.length) : sgn3 (ns.getD i 0) (ns.getD j 0) = sgn3 (i : Int) (j : Int) := by
  unfold sgn3
  rcases Nat.lt_trichotomy i j with h | h | h
  · rw [if_pos (u.lt h hj), if_pos (by omega)]
  · subst h
    rw [if_neg (by omega), if_pos rfl, if_neg (by omega), if_pos rfl]
  · have := u.lt h hi
    rw [if_neg (by omega), if_neg (by omega), if_neg (by omega), if_neg (by omega)]
/-- the items of a stretched piece -/
def itS (ns : List Int) : Nat → List D → List D
  | _, [] => []
  | b, v :: vs => List.replicate (ns.getD (b + 1) 0 - ns.getD b 0).toNat v ++ itS ns (b + 1) vs
theorem itS_len {ns : List Int} (u : Up ns) : ∀ {vs : List D} {b : Nat}, b + vs.length < ns.length → ((itS ns b vs).length : Int) = ns.getD (b + vs.length) 0 - ns.getD b 0
  | [], b, _ => by simp [itS]
  | v :: vs, b, h => by
    rw [List.length_cons] at h
    have h1 := u b (by omega)
    rw [itS, List.length_append, List.length_replicate, Int.natCast_add, itS_len u (by omega), List.length_cons, show b + 1 + vs.length = b + (vs.length + 1) by omega]
    omega
theorem itS_at {ns : List Int} (u : Up ns) : ∀ {vs : List D} {b k : Nat} {x : Int}, b + vs.length < ns.length → k < vs.length → ns.getD (b + k) 0 ≤ x → x < ns.getD (b + k + 1) 0 → (itS ns b vs).getD (x - ns.getD b 0).toNat .non = vs.getD k .non
  | [], b, k, x, _, hk, _, _ => absurd hk (Nat.not_lt_zero _)
  | v :: vs, b, k, x, h, hk, h0, h1 => by
    rw [List.length_cons] at h hk
    have u0 := u b (by omega)
    rw [itS]
    cases k with
    | zero =>
      rw [Nat.add_zero] at h0 h1
      have hx : (x - ns.getD b 0).toNat < (List.replicate (ns.getD (b + 1) 0 - ns.getD b 0).toNat v).length := by rw [List.length_replicate]; omega
      rw [List.getD_eq_getElem?_getD, List.getElem?_append_left hx, List.getElem?_replicate, if_pos (by rw [List.length_replicate] at hx; exact hx)]
      rfl
    | succ k =>
      have hb : ns.getD (b + 1) 0 ≤ ns.getD (b + (k + 1)) 0 := u.le (by omega) (by omega)
      have hx : (List.replicate (ns.getD (b + 1) 0 - ns.getD b 0).toNat v).length ≤ (x - ns.getD b 0).toNat := by rw [List.length_replicate]; omega
      have ih := itS_at u (vs := vs) (b := b + 1) (k := k) (x := x) (by omega) (by omega) (by rw [show b + 1 + k = b + (k + 1) by omega]; exact h0) (by rw [show b + 1 + k + 1 = b + (k + 1) + 1 by omega]; exact h1)
      rw [List.getD_eq_getElem?_getD, List.getElem?_append_right hx, List.length_replicate, show (x - ns.getD b 0).toNat - (ns.getD (b + 1) 0 - ns.getD b 0).toNat = (x - ns.getD (b + 1) 0).toNat by omega, ← List.getD_eq_getElem?_getD, ih]
      rfl
def strP (ns : List Int) (p : Pi3) : Pi3 := (ns.getD p.1.toNat 0, itS ns p.1.toNat p.2.1, p.2.2)
theorem strP_end {ns : List Int} (u : Up ns) {p : Pi3} (h0 : 0 ≤ p.1) (h : p.1.toNat + p.2.1.length < ns.length) : (strP ns p).1 + ((strP ns p).2.1.length : Nat) = ns.getD (p.1.toNat + p.2.1.length) 0 := by
  unfold strP
  simp only
  rw [itS_len u h]
  omega
theorem strP_at {ns : List Int} (u : Up ns) {p : Pi3} {k : Nat} {x : Int} (h0 : 0 ≤ p.1) (h : p.1.toNat + p.2.1.length < ns.length) (hk : k + 1 < ns.length) (x0 : ns.getD k 0 ≤ x) (x1 : x < ns.getD (k + 1) 0) : vAt (strP ns p) x = vAt p (k : Int) := by
  have e := strP_end u h0 h
  unfold vAt
  rw [e]
  show (if ns.getD p.1.toNat 0 ≤ x ∧ x < ns.getD (p.1.toNat + p.2.1.length) 0 then (itS ns p.1.toNat p.2.1).getD (x - ns.getD p.1.toNat 0).toNat .non else .non) = _
  by_cases c1 : p.1 ≤ (k : Int)
  · have b1 : ns.getD p.1.toNat 0 ≤ ns.getD k 0 := u.le (by omega) (by omega)
    by_cases c2 : (k : Int) < p.1 + (p.2.1.length : Nat)
    · have b2 : ns.getD (k + 1) 0 ≤ ns.getD (p.1.toNat + p.2.1.length) 0 := u.le (by omega) (by omega)
      rw [if_pos ⟨by omega, by omega⟩, if_pos ⟨c1, c2⟩]
      have ek : p.1.toNat + (k - p.1.toNat) = k := by omega
      have := itS_at u (vs := p.2.1) (b := p.1.toNat) (k := k - p.1.toNat) (x := x) h (by omega) (by rw [ek]; exact x0) (by rw [ek]; exact x1)
      rw [this]
      congr 1
      omega
    · have b2 : ns.getD (p.1.toNat + p.2.1.length) 0 ≤ ns.getD k 0 := u.le (by omega) (by omega)
      rw [if_neg (fun z => by omega), if_neg (fun z => c2 z.2)]
  · have b1 : ns.getD (k + 1) 0 ≤ ns.getD p.1.toNat 0 := u.le (by omega) (by omega)
    rw [if_neg (fun z => by omega), if_neg (fun z => c1 z.1)]
theorem wide_alk {ns : List Int} (u : Up ns) {ps : List Pi3} {k : Nat} {x : Int} (h0 : ∀ p ∈ ps, 0 ≤ p.1 ∧ p.1.toNat + p.2.1.length < ns.length) (hk : k + 1 < ns.length) (x0 : ns.getD k 0 ≤ x) (x1 : x < ns.getD (k + 1) 0) : Alk (ps.map fun p => (p, strP ns p)) (k : Int) x id := by
  refine ⟨rfl, fun z hz => ?_, fun z hz => rfl, fun z hz y hy _ _ => ?_⟩
  · obtain ⟨p, hp, rfl⟩ := List.mem_map.mp hz
    exact strP_at u (h0 p hp).1 (h0 p hp).2 hk x0 x1
  · obtain ⟨p, hp, rfl⟩ := List.mem_map.mp hz
    obtain ⟨r, hr, rfl⟩ := List.mem_map.mp hy
    have p1 := h0 p hp
    have r1 := h0 r hr
    simp only
    unfold entI vI
    rw [strP_end u p1.1 p1.2, strP_end u r1.1 r1.2, strP_at u p1.1 p1.2 hk x0 x1, strP_at u r1.1 r1.2 hk x0 x1, u.sgn (by omega) (by omega)]
    have : sgn3 (strP ns r).1 (strP ns p).1 = sgn3 r.1 p.1 := by
      show sgn3 (ns.getD r.1.toNat 0) (ns.getD p.1.toNat 0) = _
      rw [u.sgn (by omega) (by omega)]
      congr 1 <;> omega
    rw [this, show ((r.1.toNat + r.2.1.length : Nat) : Int) = r.1 + (r.2.1.length : Nat) by omega, show ((p.1.toNat + p.2.1.length : Nat) : Int) = p.1 + (p.2.1.length : Nat) by omega]
/-! values led along -/
def ledV (by_ first : Int) : D → D
  | .int i => .int (first + by_ * (if 1000 < i then 1000 else i))
  | d => d
def ledP (by_ first : Int) (p : Pi3) : Pi3 := (p.1, p.2.1.map (ledV by_ first), p.2.2)
theorem ledV_isN {b f : Int} {d : D} : isN (ledV b f d) = isN d := by cases d <;> rfl
theorem getD_map {α : Type} {g : α → α} {d : α} (h : g d = d) (l : List α) (i : Nat) : (l.map g).getD i d = g (l.getD i d) := by
  rw [List.getD_eq_getElem?_getD, List.getD_eq_getElem?_getD, List.getElem?_map]
  cases l[i]? with
  | none => exact h.symm
  | some x => rfl
theorem ledP_at {b f : Int} {p : Pi3} {q : Int} : vAt (ledP b f p) q = ledV b f (vAt p q) := by
  unfold vAt ledP
  simp only [List.length_map]
  by_cases c : p.1 ≤ q ∧ q < p.1 + (p.2.1.length : Nat)
  · rw [if_pos c, if_pos c]
    exact getD_map rfl _ _
  · rw [if_neg c, if_neg c]
    rfl
/-- a value of a drawn piece -/
def Lv (d : D) : Prop := d = .non ∨ ∃ i : Int, d = .int i ∧ (i = 0 ∨ i = 1 ∨ i = 2 ∨ i = 1000000)
theorem sgn3_led {b f i j : Int} (hb : 0 < b) (hi : i = 0 ∨ i = 1 ∨ i = 2 ∨ i = 1000000) (hj : j = 0 ∨ j = 1 ∨ j = 2 ∨ j = 1000000) : sgn3 (f + b * (if 1000 < i then 1000 else i)) (f + b * (if 1000 < j then 1000 else j)) = sgn3 i j := by
  have key : ∀ m n : Int, m < n → f + b * m < f + b * n := fun m n h => by
    have := Int.mul_lt_mul_of_pos_left h hb
    omega
  have mono : ∀ m n : Int, sgn3 (f + b * m) (f + b * n) = sgn3 m n := fun m n => by
    unfold sgn3
    rcases Int.lt_trichotomy m n with h | h | h
    · rw [if_pos (key m n h), if_pos h]
    · subst h
      rw [if_neg (by omega), if_pos rfl, if_neg (by omega), if_pos rfl]
    · have := key n m h
      rw [if_neg (by omega), if_neg (by omega), if_neg (by omega), if_neg (by omega)]
  rw [mono]
  rcases hi with rfl | rfl | rfl | rfl <;> rcases hj with rfl | rfl | rfl | rfl <;> decide
theorem vAt_in {p : Pi3} {q : Int} (h : isN (vAt p q) = false) : vAt p q ∈ p.2.1 := by
  unfold vAt at h ⊢
  split
  · rename_i c
    have : (q - p.1).toNat < p.2.1.length := by omega
    rw [List.getD_eq_getElem?_getD, List.getElem?_eq_getElem this]
    exact List.getElem_mem this
  · rename_i c
    rw [if_neg c] at h
    cases h
theorem led_alk {b f : Int} (hb : 0 < b) {ps : List Pi3} {q : Int} (hp : ∀ p ∈ ps, ∀ d ∈ p.2.1, Lv d) : Alk (ps.map fun p => (p, ledP b f p)) q q (ledV b f) := by
  refine ⟨rfl, fun z hz => ?_, fun z hz => ledV_isN, fun z hz y hy nz ny => ?_⟩
  · obtain ⟨p, _, rfl⟩ := List.mem_map.mp hz
    exact ledP_at
  · obtain ⟨p, hpp, rfl⟩ := List.mem_map.mp hz
    obtain ⟨r, hr, rfl⟩ := List.mem_map.mp hy
    simp only at nz ny ⊢
    unfold entI vI
    rw [ledP_at, ledP_at]
    have e1 : (ledP b f r).2.1.length = r.2.1.length := List.length_map ..
    have e2 : (ledP b f p).2.1.length = p.2.1.length := List.length_map ..
    rw [e1, e2]
    rcases hp p hpp _ (vAt_in nz) with e | ⟨i, ei, hi⟩
    · rw [e] at nz; cases nz
    rcases hp r hr _ (vAt_in ny) with e | ⟨j, ej, hj⟩
    · rw [e] at ny; cases ny
    rw [ei, ej]
    show _ + _ + sgn3 (f + b * (if 1000 < j then 1000 else j)) (f + b * (if 1000 < i then 1000 else i)) = _
    rw [sgn3_led hb hj hi]
    rfl
/-! other values elsewhere -/
def Els (q : Int) (z : Pi3 × Pi3) : Prop := z.2.1 = z.1.1 ∧ z.2.2.1.length = z.1.2.1.length ∧ vAt z.2 q = vAt z.1 q
theorem els_alk {zs : List (Pi3 × Pi3)} {q : Int} (h : ∀ z ∈ zs, Els q z) : Alk zs q q id := by
  refine ⟨rfl, fun z hz => (h z hz).2.2, fun z hz => rfl, fun z hz y hy nz ny => ?_⟩
  obtain ⟨z1, z2, z3⟩ := h z hz
  obtain ⟨y1, y2, y3⟩ := h y hy
  unfold entI vI
  rw [z1, z2, z3, y1, y2, y3]
theorem eqD_refl {d : D} (h : d.pl = true) : eqD d d = true := PySem.SeqAt.eqv_refl_plain _ (py_plain d h)
theorem pls_of : ∀ {xs : List D}, (∀ x ∈ xs, x.pl = true) → pls xs = true
  | [], _ => rfl
  | x :: xs, h => by rw [pls, h x List.mem_cons_self, pls_of fun y hy => h y (List.mem_cons_of_mem _ hy)]; rfl
theorem rdD_is {tb : List (List (Bool × Int))} {ps : List Pi3} {q : Int} (r : RowOk ps) : rdD tb ps q = .non ∨ ∃ i, rdD tb ps q = .int i := by
  unfold rdD
  cases ownr tb ps q with
  | none => exact .inl rfl
  | some k =>
    simp only
    cases e : ps[k]? with
    | none =>
      have e1 : ps.getD k pz = pz := by rw [List.getD_eq_getElem?_getD, e]; rfl
      rw [e1]
      exact .inl vAt_pz
    | some p =>
      have e1 : ps.getD k pz = p := by rw [List.getD_eq_getElem?_getD, e]; rfl
      rw [e1]
      exact vAt_is (r.pc p (List.mem_of_getElem? e)) q
theorem told_pl {tb : List (List (Bool × Int))} {ps : List Pi3} {q : Int} (r : RowOk ps) : (toldD tb ps q).pl = true ∧ (toldD tb ps q).dep ≤ 3 := by
  unfold toldD
  have h1 : pls ((stp tb ps q none (ovs q 0 ps)).map stepD) = true := pls_of fun d hd => by
    obtain ⟨x, _, rfl⟩ := List.mem_map.mp hd
    rfl
  have h2 : deps ((stp tb ps q none (ovs q 0 ps)).map stepD) ≤ 1 := deps_le fun d hd => by
    obtain ⟨x, _, rfl⟩ := List.mem_map.mp hd
    simp [stepD, D.dep, deps]
  have h3 : (onD (ownr tb ps q)).pl = true ∧ (onD (ownr tb ps q)).dep = 0 := by cases ownr tb ps q <;> exact ⟨rfl, rfl⟩
  have h4 : (rdD tb ps q).pl = true ∧ (rdD tb ps q).dep = 0 := by
    rcases rdD_is (tb := tb) (q := q) r with e | ⟨i, e⟩
    · rw [e]; exact ⟨rfl, rfl⟩
    · rw [e]; exact ⟨rfl, rfl⟩
  refine ⟨?_, ?_⟩
  · rw [D.pl, pls, pls, pls, pls, D.pl, h1, h3.1, h4.1]; rfl
  · rw [D.dep, deps, deps, deps, deps, D.dep, h3.2, h4.2]; omega
theorem itS_mem {ns : List Int} {d : D} : ∀ {vs : List D} {b : Nat}, d ∈ itS ns b vs → d ∈ vs
  | [], _, h => h
  | v :: vs, b, h => by
    rw [itS] at h
    rcases List.mem_append.mp h with h | h
    · rw [(List.mem_replicate.mp h).2]; exact List.mem_cons_self
    · exact List.mem_cons_of_mem _ (itS_mem h)
theorem Up.snoc {xs : List Int} {y z : Int} (u : Up (xs ++ [y])) (h : y < z) : Up (xs ++ [y] ++ [z]) := by
  intro i hi
  simp at hi
  by_cases e : i + 1 < (xs ++ [y]).length
  · have := u i e
    rw [List.getD_eq_getElem?_getD, List.getD_eq_getElem?_getD] at this ⊢
    rw [List.getElem?_append_left (by omega), List.getElem?_append_left (l₁ := xs ++ [y]) e]
    exact this
  · simp at e
    have ei : i = xs.length := by omega
    subst ei
    rw [List.getD_eq_getElem?_getD, List.getD_eq_getElem?_getD]
    simp
    exact h
theorem rdD_lv {tb : List (List (Bool × Int))} {ps : List Pi3} {q : Int} (h : ∀ p ∈ ps, ∀ d ∈ p.2.1, Lv d) : Lv (rdD tb ps q) := by
  unfold rdD
  cases ownr tb ps q with
  | none => exact .inl rfl
  | some k =>
    simp only
    cases e : ps[k]? with
    | none =>
      have e1 : ps.getD k pz = pz := by rw [List.getD_eq_getElem?_getD, e]; rfl
      rw [e1, vAt_pz]
      exact .inl rfl
    | some p =>
      have e1 : ps.getD k pz = p := by rw [List.getD_eq_getElem?_getD, e]; rfl
      rw [e1]
      cases n : isN (vAt p q) with
      | false => exact h p (List.mem_of_getElem? e) _ (vAt_in n)
      | true =>
        refine .inl ?_
        cases v : vAt p q <;> rw [v] at n <;> first | rfl | cases n
/-- a comprehension by an invariant over what it has made -/
theorem compGo_acc {g : SG} {f : SE} {vs : List Nat} {ds : List D} {Γ0 : List S} {κ : List D → List S → Prop} (I : List D → List S → Prop)
    (turn : ∀ i d, ds[i]? = some d → ∀ acc Γ, acc.length = i → I acc Γ → ∀ (Y : D → List S → Prop), (∀ y Γ', I (acc ++ [y]) Γ' → Y y Γ') → g d Γ fun Γ2 => f Γ2 (fun t Γ3 => Y t.fz (clr vs Γ3)) noX)
    (start : I [] Γ0) (fin : ∀ ys Γ', I ys Γ' → ys.length = ds.length → κ ys Γ') : compGo g cYes f vs ds Γ0 κ := by
  have go : ∀ (es : List D) (acc : List D) (Γ : List S) (κ : List D → List S → Prop), (∀ j, es[j]? = ds[acc.length + j]?) → acc.length + es.length = ds.length → I acc Γ → (∀ ys Γ', I (acc ++ ys) Γ' → ys.length = es.length → κ ys Γ') → compGo g cYes f vs es Γ κ := by
    intro es
    induction es with
    | nil => intro acc Γ κ _ hl h fin; exact fin [] Γ (by rw [List.append_nil]; exact h) rfl
    | cons d es ih =>
      intro acc Γ κ hj hl h fin
      unfold compGo
      have hj' : ∀ y j, es[j]? = ds[(acc ++ [y]).length + j]? := fun y j => by
        have := hj (j + 1)
        rw [List.length_append, List.length_singleton, show acc.length + 1 + j = acc.length + (j + 1) by omega]
        simpa using this
      have hl' : ∀ y : D, (acc ++ [y]).length + es.length = ds.length := fun y => by rw [List.length_append, List.length_singleton, ← hl, List.length_cons]; omega
      exact turn acc.length d (by have := hj 0; simpa using this.symm) acc Γ rfl h (fun y Γ => compGo g cYes f vs es Γ fun ys Γ4 => κ (y :: ys) Γ4) fun y Γ' h' =>
        ih (acc ++ [y]) Γ' _ (hj' y) (hl' y) h' fun ys Γ2 i2 hle => fin (y :: ys) Γ2 (by simpa using i2) (by rw [List.length_cons, List.length_cons, hle])
  exact go ds [] Γ0 κ (fun j => by simp) (by simp) start fun ys Γ' h => fin ys Γ' (by simpa using h)
theorem getD_snoc {l : List D} {y : D} {j : Nat} : (l ++ [y]).getD j .non = if j < l.length then l.getD j .non else if j = l.length then y else .non := by
  rw [List.getD_eq_getElem?_getD, List.getD_eq_getElem?_getD]
  by_cases h : j < l.length
  · rw [if_pos h, List.getElem?_append_left h]
  · rw [if_neg h, List.getElem?_append_right (by omega)]
    by_cases e : j = l.length
    · subst e; simp
    · rw [if_neg e, List.getElem?_eq_none (by simp; omega)]
      rfl
end L3
/-! L3Z: xs[::-1] of a list; x[c].pop(0) as a value; x[c].insert(0, e), x[c].append(e); three clauses over anything -/
namespace L3
open PySem PySem.Spec PyProof.Rows L2
section
variable {X : Cx} {pa : List V} {pos p1 p2 p3 p4 p5 p6 p7 : Pos} {e : Expr} {x : Str} {i : Nat} {ga : SA} {f : SE}
def tRevL (K : PySem.W.Frag) (te : TE) : TE := fun σ H Q => te σ H fun x H1 => ∃ a xs, x = .ref a ∧ SqL K H1 a xs ∧ ∀ p, H1 p = none → Q (.ref p) (upd H1 p (.lst xs.reverse))
theorem pe_revL {te : TE} {k : Nat} (he : PE X e te) : PE X (.Subscript e (.Slice none none (some (.UnaryOp .USub (.Constant (.int 1) k p1) p2)) p3) pos) (tRevL X.K te) := by
  refine ⟨fun pins s σ H Q I h => ?_⟩
  refine Subscript_ (thn (he.run pins s σ H _ I h) fun v s1 ⟨x, H1, I1, r1, q1⟩ => ?_)
  obtain ⟨a, xs, ex, hx, q⟩ := q1
  subst ex
  cases r1
  have step : PO X (some (.UnaryOp .USub (.Constant (.int 1) k p1) p2)) (tPart (tUn (rU fun i => .int (-i)) (tC (.int 1)))) := po_some (pe_un un_neg pe_int)
  refine wpAny_Slice (thn (po_none.run pins s1 σ H1 (fun o H2 => o = none ∧ H2 = H1) I1 ⟨rfl, rfl⟩) fun vl s2 ⟨l, H2, I2, pl, el, e2⟩ => ?_)
  subst el e2
  refine thn (po_none.run pins s2 σ H2 (fun o H3 => o = none ∧ H3 = H2) I2 ⟨rfl, rfl⟩) fun vu s3 ⟨u, H3, I3, pu, eu, e3⟩ => ?_
  subst eu e3
  refine thn (step.run pins s3 σ H3 (fun o H4 => o = some (-1) ∧ H4 = H3) I3 ⟨1, rfl, -1, rfl, rfl, rfl⟩) fun vs s4 ⟨o, H4, I4, ps, eo, e4⟩ => ?_
  subst eo e4
  have I5 : Inv X pins σ H4 { s4 with heap := s4.heap.push { cls := .type "slice", data := .fields #[vl, vu, vs] } } := I4.kept (t' := s4.toks) fun b ob q => Heap.get?_push_of_some _ q
  obtain ⟨its, r, ht, hz⟩ := I5.list hx
  have hlen := r.length
  show wpAny (model X.prog X.w) X.A (subscriptTail e (.Slice none none (some (.UnaryOp .USub (.Constant (.int 1) k p1) p2)) p3) (.ref a) (.ref s4.heap.objs.size)) (EP X pins σ Q) X.xe { s4 with heap := s4.heap.push { cls := .type "slice", data := .fields #[vl, vu, vs] } }
  refine tail_any (ops := [.ref a, .ref s4.heap.objs.size]) ht.isList.typeIs (slot_list_getitem.lookup) ?_ (by with_unfolding_all rfl)
  refine wpAny_getItem_list_slice ht.isList (Heap.IsSliceOf.new _ vl vu vs) pl pu ps (by decide) ?_ (by rw [List.size_toArray]; omega)
  rw [PySem.W.krv_pick]
  refine ⟨.ref _, _, I5.laid (t' := s4.toks) (o := .lst xs.reverse) (fun b ob q => Heap.get?_push_of_some _ q) (Nat.le_refl _) ?_, rfl, q _ (I5.hok.fresh (Nat.le_refl _))⟩
  exact ⟨by rw [List.length_reverse]; exact hz, _, 0, r.reverse, Heap.get?_push_size _ rfl⟩
@[simp] def sRevL (ga : SA) : SE := fun Γ κ Ex => ga Γ (fun a Γ1 => rdK Γ1 a fun d => ∃ xs, d = .lst xs ∧ κ (.ls xs.reverse) Γ1) Ex
theorem ej_revL {k : Nat} (ha : AJ X pa e ga) : EJ X pa (.Subscript e (.Slice none none (some (.UnaryOp .USub (.Constant (.int 1) k p1) p2)) p3) pos) (sRevL ga) := ⟨fun W tk =>
  PE.imp (pe_revL (ha.run W tk)) fun σ H Q ⟨F, Γ, R, Ex, Kc, o, xl, q, kk⟩ => ⟨F, Γ, R, Ex, _, o, xl, q, fun ar Γ1 h1 v F1 H1 R1 o1 s1 a1 => by
    obtain ⟨d, b, xs, rfl, h2⟩ := rdK_ok o1 a1 h1
    obtain ⟨a, vs, ev, q1, r1⟩ := b.sqL o1.sub
    refine ⟨a, vs, ev, q1, fun p hp => ?_⟩
    obtain ⟨t, F', R', r', o', s', x', pp⟩ := fin_ls (P := fun t => Kc t Γ1) o1 hp r1.reverse h2
    exact kk _ _ pp _ F' _ R' r' o' (s1.trans s') x'⟩⟩
/-- x[c].pop(0), its value -/
@[simp] def sPop0 (i c : Nat) : SE := fun Γ κ _ => ∃ j ts d ds, Γ[i]? = some (.o j (.ll ts)) ∧ ts[c]? = some (.ls (d :: ds)) ∧ κ (.leaf d) (Γ.set i (.o j (.ll (ts.set c (.ls ds)))))
theorem ej_pop0 (hp : PE X (.Name x p1) (tVar i)) {c : Nat} {j j2} (hline : (p4.endLine == p6.line) = true := by rfl)
    (hbase : attributeBase (.Subscript (.Name x p1) (.Constant (.int (c : Int)) j p2) p3) "pop" X.env (eval (.Subscript (.Name x p1) (.Constant (.int (c : Int)) j p2) p3) X.env) = eval (.Subscript (.Name x p1) (.Constant (.int (c : Int)) j p2) p3) X.env := by rfl) :
    EJ X pa (.Call (.Attribute (.Subscript (.Name x p1) (.Constant (.int (c : Int)) j p2) p3) "pop" p4) [.Constant (.int 0) j2 p5] [] p6) (sPop0 i c) := ⟨fun W tk =>
  PE.imp (pe_bm PySem.F.plainAttrs_list PySem.F.slot_list_pop PySem.F.type_list_pop mt_popAt (pe_at hp) (pa_cons pe_int pa_nil) hbase rfl hline) fun σ H Q ⟨F, Γ, R, Ex, Kc, o, xl, ⟨j, ts, d, ds, e1, e2, h1⟩, k⟩ => by
    obtain ⟨a, vs, rr, ev, ha, ow, hn, hR⟩ := o.ll e1
    obtain ⟨b, ws, h3, h4, h5, h6, h7⟩ := ow.inner e2
    have nab : a ≠ b := fun z => hn (z ▸ h6)
    cases h5 with
    | cons r5 p5 =>
      rename_i v ws
      refine ⟨_, ev, _, _, _, _, rfl, rfl, SqL.of ha, atI_nat h3, .inl ⟨rfl, _, SqL.of h4⟩, b, _, 0, 0, v, rfl, rfl, h4, by decide, by decide, ?_, rfl, ?_⟩
      · simp [seqIndex?]
      obtain ⟨o3, s3⟩ := o.updI (x := .lst ws) (p := b) (t' := .ll (ts.set c (.ls ds))) e1 ev (by rw [hR]; exact List.mem_cons_of_mem _ h6) (by
        rw [hR]
        exact .ll (by rw [upd_ne nab]; exact ha) (h7 _ _ p5) hn)
      exact k _ _ h1 v F _ R [] o3 s3 (.leaf r5)⟩
/-- x[c].insert(0, e), e an int that is only read -/
@[simp] def zIns0 (i c : Nat) (q : List S → Option Int) : SS := fun k Γ _ => ∃ n j ts ds, q Γ = some n ∧ Γ[i]? = some (.o j (.ll ts)) ∧ ts[c]? = some (.ls ds) ∧ ds.length < sizeLine ∧ k.nx (Γ.set i (.o j (.ll (ts.set c (.ls (.int n :: ds))))))
theorem sj_ins0 (hp : PE X (.Name x p1) (tVar i)) {c : Nat} {j j2} {q : List S → Option Int} (hq : QJ X pa e q) (hline : (p4.endLine == p6.line) = true := by rfl)
    (hbase : attributeBase (.Subscript (.Name x p1) (.Constant (.int (c : Int)) j p2) p3) "insert" X.env (eval (.Subscript (.Name x p1) (.Constant (.int (c : Int)) j p2) p3) X.env) = eval (.Subscript (.Name x p1) (.Constant (.int (c : Int)) j p2) p3) X.env := by rfl)
    (hfew : ((backTo p6 (starEach [.Constant (.int 0) j2 p5, e] X.env)).all (fun x => !x.1) && (backToKw p6 (keywordEach [] X.env)).all (fun x => x.1.isSome)
      && decide (([.Constant (.int 0) j2 p5, e] : List Expr).length + ([] : List Keyword).length + (if ([] : List Keyword).isEmpty then 0 else 1) < 30)) = true := by rfl)
    (hse : starEach [e] X.env = (false, eval e X.env) :: starEach [] X.env := by rfl)
    (hse2 : starEach [.Constant (.int 0) j2 p5, e] X.env = (false, eval (.Constant (.int 0) j2 p5) X.env) :: starEach [e] X.env := by rfl)
    (hpl : (backTo p6 (starEach [e] X.env)).any (·.1) = false := by rfl)
    (hs : swapsWith (.Call (.Attribute (.Subscript (.Name x p1) (.Constant (.int (c : Int)) j p2) p3) "insert" p4) [.Constant (.int 0) j2 p5, e] [] p6) none pos.line X.env = pure false := by rfl) :
    SJ X pa (.Expr (.Call (.Attribute (.Subscript (.Name x p1) (.Constant (.int (c : Int)) j p2) p3) "insert" p4) [.Constant (.int 0) j2 p5, e] [] p6) pos) (zIns0 i c q) := ⟨fun W tk =>
  PS.imp (ps_expr (pe_bm PySem.F.plainAttrs_list PySem.F.slot_list_insert PySem.F.type_list_insert mt_insert (pe_at hp) (pa_cons pe_int (pa_cons hq.run pa_nil hse) hse2) hbase hfew hline hse2 hpl) hs) fun D σ H ⟨F, Γ, R, Ex, k, o, xl, ⟨m, j, ts, ds, eq, e1, e2, hsz, h1⟩, n, _⟩ => by
    obtain ⟨a, vs, rr, ev, ha, ow, hn, hR⟩ := o.ll e1
    obtain ⟨b, ws, h3, h4, h5, h6, h7⟩ := ow.inner e2
    have nab : a ≠ b := fun z => hn (z ▸ h6)
    refine ⟨_, ev, _, _, _, _, rfl, rfl, SqL.of ha, atI_nat h3, .inl ⟨rfl, _, SqL.of h4⟩, F, Γ, R, m, o, eq, b, ws, 0, .int m, rfl, rfl, h4, by rw [h5.length]; exact hsz, by decide, by decide, ?_⟩
    obtain ⟨o3, s3⟩ := o.updI (x := .lst (V.int m :: ws)) (p := b) (t' := .ll (ts.set c (.ls (.int m :: ds)))) e1 ev (by rw [hR]; exact List.mem_cons_of_mem _ h6) (by
      rw [hR]
      exact .ll (by rw [upd_ne nab]; exact ha) (h7 _ _ (.cons (.int m) h5)) hn)
    exact n _ h1 _ _ _ _ o3 s3⟩
end
/-! three clauses over anything that stays -/
theorem comp3G {own : List (Str × Nat)} {vs1 vs2 : List Nat} {i0 i1 i2 : Nat} {f : SE} {h h1 h2 : SI} {Γ : List S} {κ : O → List S → Prop} {Ex : Xk} {A B C : List D} (V : D → D → D → D) (Γ0 : List S) (h0 : clr (own.map (·.2)) Γ = Γ0) (hl : A.length * (B.length * C.length) ≤ sizeLine)
    (hA : ∀ κ : List D → List S → Prop, κ A Γ → h Γ κ Ex) (hB : ∀ (Γ : List S) (κ : List D → List S → Prop), κ B Γ → h1 Γ κ noX) (hC : ∀ (Γ : List S) (κ : List D → List S → Prop), κ C Γ → h2 Γ κ noX)
    (he : ∀ a ∈ A, ∀ b ∈ B, ∀ c ∈ C, ∀ N : O → List S → Prop, N (.leaf (V a b c)) ((clr vs2 ((clr vs1 (Γ0.set i0 (.v a))).set i1 (.v b))).set i2 (.v c)) → f ((clr vs2 ((clr vs1 (Γ0.set i0 (.v a))).set i1 (.v b))).set i2 (.v c)) N noX)
    (e2 : ∀ a b c, clr vs2 ((clr vs2 ((clr vs1 (Γ0.set i0 (.v a))).set i1 (.v b))).set i2 (.v c)) = clr vs2 ((clr vs1 (Γ0.set i0 (.v a))).set i1 (.v b)))
    (e1 : ∀ a b, clr vs1 (clr vs2 ((clr vs1 (Γ0.set i0 (.v a))).set i1 (.v b))) = clr vs1 (Γ0.set i0 (.v a)))
    (e0 : ∀ a, clr (own.map (·.2)) (clr vs1 (Γ0.set i0 (.v a))) = Γ0)
    (hk : κ (.ls (A.flatMap fun a => B.flatMap fun b => C.map fun c => V a b c)) (rst (own.map (·.2)) Γ Γ0)) :
    sComp3 h (sr3 own vs1 vs2 (gN i0) (gN i1) (gN i2) cYes cYes cYes h1 h2 f) (own.map (·.2)) Γ κ Ex := by
  refine hA _ ?_
  show goA (gN i0) cYes h1 (goA (gN i1) cYes h2 (goZ (gN i2) cYes f vs2) vs1 vs2) (own.map (·.2)) vs1 0 A (clr (own.map (·.2)) Γ) _
  rw [h0]
  have lenB : ∀ a, (B.flatMap fun b => C.map fun c => V a b c).length = B.length * C.length := fun a => len_fm fun b => List.length_map ..
  refine goA_map (fun a => B.flatMap fun b => C.map fun c => V a b c) (B.length * C.length) (A.length * (B.length * C.length)) (fun a _ => lenB a) (by omega) (fun a ha m N hm hN => ?_) hk
  refine hB _ _ ?_
  show goA (gN i1) cYes h2 (goZ (gN i2) cYes f vs2) vs1 vs2 m B (clr vs1 (Γ0.set i0 (.v a))) N
  refine goA_map (fun b => C.map fun c => V a b c) C.length (A.length * (B.length * C.length)) (fun b _ => List.length_map ..) hm (fun b hb m2 N2 hm2 hN2 => ?_) (hN _ (e0 a))
  refine hC _ _ ?_
  show goZ (gN i2) cYes f vs2 m2 C (clr vs2 ((clr vs1 (Γ0.set i0 (.v a))).set i1 (.v b))) N2
  refine goZ_map (fun c => V a b c) (Nat.le_trans hm2 hl) (fun c hc N3 hN3 => he a ha b hb c hc _ (hN3 _ (e2 a b c))) (hN2 _ (e1 a b))
end L3
/-! L3M: mirrored tables and rows; tables that read alike -/
namespace L3
open PySem PySem.Spec PyProof.Rows L2
theorem nxH_tb {tb tb' : List (List (Bool × Int))} {ps ps' : List Pi3} {q q' : Int} {h : Option (Nat × Nat)} {k : Nat}
    (hE : ∀ o s, h = some (o, s) → entA tb' s (ps'.getD o pz) (ps'.getD k pz) q' = entA tb s (ps.getD o pz) (ps.getD k pz) q) : nxH tb' ps' q' h k = nxH tb ps q h k := by
  cases h with
  | none => rfl
  | some os =>
    obtain ⟨o, s⟩ := os
    have e := hE o s rfl
    show ((if (entA tb' s (ps'.getD o pz) (ps'.getD k pz) q').1 then k else o), (entA tb' s (ps'.getD o pz) (ps'.getD k pz) q').2.toNat) = ((if (entA tb s (ps.getD o pz) (ps.getD k pz) q).1 then k else o), (entA tb s (ps.getD o pz) (ps.getD k pz) q).2.toNat)
    rw [e]
theorem stp_tb {tb tb' : List (List (Bool × Int))} {ps ps' : List Pi3} {q q' : Int} (K : Nat → Prop)
    (hE : ∀ i j s, K i → K j → entA tb' s (ps'.getD i pz) (ps'.getD j pz) q' = entA tb s (ps.getD i pz) (ps.getD j pz) q) :
    ∀ {ks : List Nat} {h : Option (Nat × Nat)}, (∀ k ∈ ks, K k) → (∀ o s, h = some (o, s) → K o) → stp tb' ps' q' h ks = stp tb ps q h ks
  | [], _, _, _ => rfl
  | k :: ks, h, hk, hh => by
    have k0 := hk k List.mem_cons_self
    have n1 := nxH_tb (tb := tb) (tb' := tb') (ps := ps) (ps' := ps') (q := q) (q' := q') (h := h) (k := k) fun o s e => hE o k s (hh o s e) k0
    have n2 := nxH_K (tb := tb) (ps := ps) (q := q) (K := K) (h := h) k0 hh
    rw [stp, stp, n1, stp_tb K hE (fun k hk' => hk k (List.mem_cons_of_mem _ hk')) (fun o s e => by
      have : nxH tb ps q h k = (o, s) := Option.some.inj e
      rw [this] at n2
      exact n2)]
/-- where an entry stands in a mirrored state -/
def mIx (k : Nat) : Nat := 9 * (2 - k / 3 % 3) + 3 * (2 - k / 9) + k % 3
theorem mIx_ok : ∀ k, k < 27 → mIx k < 27 ∧ mIx (mIx k) = k := by decide
def mirS (st : List (Bool × Int)) : List (Bool × Int) := (List.range 27).map fun k => st.getD (mIx k) (false, 0)
theorem mirS_len {st : List (Bool × Int)} : (mirS st).length = 27 := by simp [mirS]
theorem mirS_get {st : List (Bool × Int)} {k : Nat} (h : k < 27) : (mirS st).getD k (false, 0) = st.getD (mIx k) (false, 0) := by
  unfold mirS
  rw [List.getD_eq_getElem?_getD, List.getElem?_map, List.getElem?_range h]
  rfl
theorem mirS_mirS {st : List (Bool × Int)} (h : st.length = 27) : mirS (mirS st) = st := by
  apply List.ext_getElem
  · rw [mirS_len, h]
  · intro k h1 h2
    rw [mirS_len] at h1
    have e1 := mirS_get (st := mirS st) h1
    rw [mirS_get (mIx_ok k h1).1, (mIx_ok k h1).2] at e1
    rw [List.getD_eq_getElem?_getD, List.getD_eq_getElem?_getD, List.getElem?_eq_getElem (by rw [mirS_len]; exact h1), List.getElem?_eq_getElem h2] at e1
    exact e1
def mirB (tb : List (List (Bool × Int))) : List (List (Bool × Int)) := tb.map mirS
theorem mirB_wf {tb : List (List (Bool × Int))} (w : WfT tb) : WfT (mirB tb) := by
  refine ⟨by unfold mirB; rw [List.length_map]; exact w.ne, fun st h => ?_, fun st h e he => ?_⟩
  · obtain ⟨s, _, rfl⟩ := List.mem_map.mp h
    exact mirS_len
  · obtain ⟨s, hs, rfl⟩ := List.mem_map.mp h
    obtain ⟨k, hk, rfl⟩ := List.mem_map.mp he
    have hk := mIx_ok k (List.mem_range.mp hk)
    have hl := w.len s hs
    unfold mirB
    rw [List.length_map, List.getD_eq_getElem?_getD, List.getElem?_eq_getElem (by omega)]
    exact w.nx s hs _ (List.getElem_mem (by omega))
theorem mirB_mirB {tb : List (List (Bool × Int))} (w : WfT tb) : mirB (mirB tb) = tb := by
  unfold mirB
  rw [List.map_map]
  conv => rhs; rw [← List.map_id tb]
  apply List.map_congr_left
  intro st h
  exact mirS_mirS (w.len st h)
def mirP (n : Int) (p : Pi3) : Pi3 := (n - (p.1 + (p.2.1.length : Nat)), p.2.1.reverse, false)
theorem mirP_at {n : Int} {p : Pi3} {q : Int} : vAt (mirP n p) (n - 1 - q) = vAt p q := by
  unfold vAt mirP
  simp only [List.length_reverse]
  by_cases c : p.1 ≤ q ∧ q < p.1 + (p.2.1.length : Nat)
  · rw [if_pos c, if_pos (by omega)]
    have hk : (n - 1 - q - (n - (p.1 + (p.2.1.length : Nat)))).toNat < p.2.1.length := by omega
    rw [List.getD_eq_getElem?_getD, List.getD_eq_getElem?_getD, List.getElem?_reverse hk]
    congr 2
    omega
  · rw [if_neg c, if_neg (fun z => c (by omega))]
theorem sgn3_mir {n a b : Int} : sgn3 (n - a) (n - b) = 2 - sgn3 a b := by
  unfold sgn3
  rcases Int.lt_trichotomy a b with h | h | h
  · rw [if_neg (by omega), if_neg (by omega), if_pos h]; rfl
  · subst h
    rw [if_neg (by omega), if_pos rfl, if_neg (by omega), if_pos rfl]; rfl
  · rw [if_pos (by omega), if_neg (by omega), if_neg (by omega)]; rfl
theorem mir_ent {tb : List (List (Bool × Int))} {s : Nat} {o r : Pi3} {n q : Int} : entA (mirB tb) s (mirP n o) (mirP n r) (n - 1 - q) = entA tb s o r q := by
  have hb := sgn3_is r.1 o.1
  have he := sgn3_is (r.1 + (r.2.1.length : Nat)) (o.1 + (o.2.1.length : Nat))
  have hv := sgn3_is (vI r q) (vI o q)
  have e1 : entI (mirP n o) (mirP n r) (n - 1 - q) = 9 * (2 - sgn3 (r.1 + (r.2.1.length : Nat)) (o.1 + (o.2.1.length : Nat))) + 3 * (2 - sgn3 r.1 o.1) + sgn3 (vI r q) (vI o q) := by
    have ends : ∀ p : Pi3, (mirP n p).1 + ((mirP n p).2.1.length : Nat) = n - p.1 := fun p => by
      unfold mirP
      simp only [List.length_reverse]
      omega
    unfold entI vI
    rw [mirP_at, mirP_at, ends, ends, sgn3_mir]
    show 9 * sgn3 (n - _) (n - _) + _ + _ = _
    rw [sgn3_mir]
  unfold entA
  rw [e1]
  have e2 : entI o r q = 9 * sgn3 r.1 o.1 + 3 * sgn3 (r.1 + (r.2.1.length : Nat)) (o.1 + (o.2.1.length : Nat)) + sgn3 (vI r q) (vI o q) := rfl
  rw [e2]
  generalize sgn3 r.1 o.1 = B at hb ⊢
  generalize sgn3 (r.1 + (r.2.1.length : Nat)) (o.1 + (o.2.1.length : Nat)) = E at he ⊢
  generalize sgn3 (vI r q) (vI o q) = V at hv ⊢
  have hB : B = 0 ∨ B = 1 ∨ B = 2 := by omega
  have hE : E = 0 ∨ E = 1 ∨ E = 2 := by omega
  have hV : V = 0 ∨ V = 1 ∨ V = 2 := by omega
  unfold mirB
  rw [List.getD_eq_getElem?_getD (l := List.map mirS tb), List.getD_eq_getElem?_getD (l := tb), List.getElem?_map]
  cases tb[s]? with
  | none => rfl
  | some st =>
    simp only [Option.map_some, Option.getD_some]
    have hk : (9 * (2 - E) + 3 * (2 - B) + V).toNat < 27 := by omega
    rw [mirS_get hk]
    congr 1
    rcases hB with rfl | rfl | rfl <;> rcases hE with rfl | rfl | rfl <;> rcases hV with rfl | rfl | rfl <;> decide
theorem mir_ovs {n q : Int} : ∀ {ps : List Pi3} {k : Nat}, ovs (n - 1 - q) k (ps.map (mirP n)) = ovs q k ps
  | [], _ => rfl
  | p :: ps, k => by rw [List.map_cons, ovs, ovs, mirP_at, mir_ovs]
theorem map_getD {ps : List Pi3} {n : Int} {i : Nat} (h : i < ps.length) : (ps.map (mirP n)).getD i pz = mirP n (ps.getD i pz) := by
  rw [List.getD_eq_getElem?_getD, List.getD_eq_getElem?_getD, List.getElem?_map, List.getElem?_eq_getElem h]
  rfl
theorem mir_stp {tb : List (List (Bool × Int))} {ps : List Pi3} {n q : Int} : stp (mirB tb) (ps.map (mirP n)) (n - 1 - q) none (ovs (n - 1 - q) 0 (ps.map (mirP n))) = stp tb ps q none (ovs q 0 ps) := by
  rw [mir_ovs]
  exact stp_tb (fun i => i < ps.length) (fun i j s hi hj => by rw [map_getD hi, map_getD hj]; exact mir_ent) (fun k hk => ovs_lt hk) (fun _ _ e => by cases e)
theorem mir_ownr {tb : List (List (Bool × Int))} {ps : List Pi3} {n q : Int} : ownr (mirB tb) (ps.map (mirP n)) (n - 1 - q) = ownr tb ps q := by
  unfold ownr
  rw [mir_stp]
theorem mir_rdD {tb : List (List (Bool × Int))} {ps : List Pi3} {n q : Int} : rdD (mirB tb) (ps.map (mirP n)) (n - 1 - q) = rdD tb ps q := by
  unfold rdD
  rw [mir_ownr]
  cases e : ownr tb ps q with
  | none => rfl
  | some k =>
    simp only
    have hk : k < ps.length := by
      unfold ownr at e
      obtain ⟨x, hx, rfl⟩ := Option.map_eq_some_iff.mp e
      exact (stp_K (K := fun k => k < ps.length) (fun k hk => ovs_lt hk) (fun _ _ (e : (none : Option (Nat × Nat)) = some _) => by cases e) x (List.mem_of_getLast? hx)).2
    rw [map_getD hk, mirP_at]
/-- a piece of small numbers -/
structure Sq (p : Pi3) : Prop where
  b : p.1.natAbs < 10 ^ 30
  len : p.2.1.length ≤ 5
  its : ∀ d ∈ p.2.1, d = .non ∨ ∃ i : Int, d = .int i ∧ 0 ≤ i ∧ i ≤ 1000000
theorem Sq.pc {p : Pi3} (s : Sq p) : Pc p := ⟨Nat.le_trans s.len (by decide), fun d hd => (s.its d hd).imp id fun ⟨i, e, _⟩ => ⟨i, e⟩⟩
theorem Sm.sq {p : Pi3} (s : Sm p) : Sq p := ⟨by have := s.b0; have := s.b1; omega, s.len, s.its⟩
theorem Sq.vl {p : Pi3} (s : Sq p) : (pcD p).sm = true ∧ (pcD p).dep ≤ 2 ∧ (pcD p).wt ≤ 600 := by
  have it : ∀ d ∈ p.2.1, d.sm = true ∧ d.dep ≤ 0 ∧ d.wt ≤ 64 := fun d hd => by
    rcases s.its d hd with rfl | ⟨i, rfl, i0, i1⟩
    · exact ⟨rfl, Nat.le_refl _, Nat.le_refl _⟩
    · exact ⟨decide_eq_true (by omega), Nat.le_refl _, Nat.le_refl _⟩
  have h2 := s.b
  have h3 := s.len
  have w := wts_le (k := 64) (xs := p.2.1) fun d hd => (it d hd).2.2
  have sx : sms p.2.1 = true := sms_of fun d hd => (it d hd).1
  have dx : deps p.2.1 ≤ 0 := deps_le fun d hd => (it d hd).2.1
  refine ⟨?_, ?_, ?_⟩
  · simp [pcD, D.sm, sms, sx]; omega
  · simp [pcD, D.dep, deps]; omega
  · simp [pcD, D.wt, wts]; omega
theorem sq_row {n : Nat} {ps : List Pi3} (l : ps.length ≤ n) (s : ∀ p ∈ ps, Sq p) : (D.tup (ps.map pcD)).sm = true ∧ (D.tup (ps.map pcD)).dep ≤ 3 ∧ (D.tup (ps.map pcD)).wt ≤ 602 * n + 3 := by
  have w := wts_le (k := 600) (xs := ps.map pcD) fun d hd => by
    obtain ⟨p, hp, rfl⟩ := List.mem_map.mp hd
    exact (s p hp).vl.2.2
  rw [List.length_map] at w
  have := Nat.mul_le_mul_left 602 l
  refine ⟨?_, ?_, ?_⟩
  · rw [D.sm]
    exact sms_of fun d hd => by
      obtain ⟨p, hp, rfl⟩ := List.mem_map.mp hd
      exact (s p hp).vl.1
  · rw [D.dep]
    exact Nat.succ_le_succ (deps_le fun d hd => by
      obtain ⟨p, hp, rfl⟩ := List.mem_map.mp hd
      exact (s p hp).vl.2.1)
  · rw [D.wt]; omega
theorem rowSq_ok {ps : List Pi3} (l : ps.length ≤ 2000) (s : ∀ p ∈ ps, Sq p) : okRepr (.tup (ps.map pcD)) := by
  have h := sq_row l s
  exact okRepr_of h.1 (Nat.le_trans h.2.1 (by decide)) (Nat.le_trans h.2.2 (by decide))
theorem Sq.mir {p : Pi3} (s : Sq p) {n : Int} (hn : n.natAbs < 10 ^ 29) (hp : p.1.natAbs < 10 ^ 29) : Sq (mirP n p) := by
  have := s.len
  refine ⟨?_, ?_, fun d hd => s.its d (List.mem_reverse.mp hd)⟩
  · show (n - (p.1 + (p.2.1.length : Nat))).natAbs < 10 ^ 30
    omega
  · show p.2.1.reverse.length ≤ 5
    rw [List.length_reverse]
    omega
/-- tables of at most six states -/
theorem tb_vl6 {tb : List (List (Bool × Int))} (wt : WfT tb) (lt : tb.length ≤ 6) : (tbD tb).sm = true ∧ (tbD tb).dep ≤ 3 ∧ (tbD tb).wt ≤ 200000 := by
  have ent : ∀ st ∈ tb, ∀ e ∈ st, (entD e.1 e.2).sm = true ∧ (entD e.1 e.2).dep ≤ 1 ∧ (entD e.1 e.2).wt ≤ 971 := fun st hs e he => by
    have := wt.nx st hs e he
    have s1 : smS (Str.ofString "new") = true := by decide
    have s2 : smS (Str.ofString "old") = true := by decide
    refine ⟨?_, by simp [entD, D.dep, deps], by simp [entD, D.wt, wts]⟩
    simp [entD, D.sm, sms]
    refine ⟨?_, by omega⟩
    split
    · exact s1
    · exact s2
  have sts : ∀ st ∈ tb, (D.tup (st.map fun e => entD e.1 e.2)).sm = true ∧ (D.tup (st.map fun e => entD e.1 e.2)).dep ≤ 2 ∧ (D.tup (st.map fun e => entD e.1 e.2)).wt ≤ 26274 := fun st hs => by
    have w := wts_le (k := 971) (xs := st.map fun e => entD e.1 e.2) fun d hd => by
      obtain ⟨e, he, rfl⟩ := List.mem_map.mp hd
      exact (ent st hs e he).2.2
    rw [List.length_map, wt.len st hs] at w
    refine ⟨?_, ?_, ?_⟩
    · rw [D.sm]
      exact sms_of fun d hd => by
        obtain ⟨e, he, rfl⟩ := List.mem_map.mp hd
        exact (ent st hs e he).1
    · rw [D.dep]
      exact Nat.succ_le_succ (deps_le fun d hd => by
        obtain ⟨e, he, rfl⟩ := List.mem_map.mp hd
        exact (ent st hs e he).2.1)
    · rw [D.wt]; omega
  have w := wts_le (k := 26274) (xs := tb.map fun st => D.tup (st.map fun e => entD e.1 e.2)) fun d hd => by
    obtain ⟨st, hs, rfl⟩ := List.mem_map.mp hd
    exact (sts st hs).2.2
  rw [List.length_map] at w
  refine ⟨?_, ?_, ?_⟩
  · unfold tbD
    rw [D.sm]
    exact sms_of fun d hd => by
      obtain ⟨e, he, rfl⟩ := List.mem_map.mp hd
      exact (sts e he).1
  · unfold tbD
    rw [D.dep]
    exact Nat.succ_le_succ (deps_le fun d hd => by
      obtain ⟨e, he, rfl⟩ := List.mem_map.mp hd
      exact (sts e he).2.1)
  · unfold tbD
    rw [D.wt]; omega
theorem tb6_ok {tb : List (List (Bool × Int))} (wt : WfT tb) (lt : tb.length ≤ 6) : okRepr (tbD tb) := by
  have h := tb_vl6 wt lt
  exact okRepr_of h.1 (Nat.le_trans h.2.1 (by decide)) (Nat.le_trans h.2.2 (by decide))
/-! what the second kind of drawing gives -/
def c_d2_table : SE := fun Γ κ _ => match Γ with | [.o (some 0) t, .v (.int n)] => (∃ m, IsTank m t ∧ m < 2 ^ 38 ∧ 0 < n ∧ n ≤ 6 ∧ ∀ (tb : List (List (Bool × Int))) t', WfT tb → (tb.length : Int) ≤ n → IsTank (m + 500) t' → κ (.leaf (tbD tb)) [.o (some 0) t', .v (.int n)]) | _ => False
def runL (tb : List (List (Bool × Int))) (ps : List Pi3) (q : Int) : List D := match (stp tb ps q none (ovs q 0 ps)).getLast? with | none => [] | some x => [.int x.2.1, .int x.2.2]
def c_d2_run : SE := fun Γ κ _ => ∃ (tb : List (List (Bool × Int))) (ps : List Pi3) (q : Int), Γ = [.v (tbD tb), .v (.tup (ps.map pcD)), .v (.int q)] ∧ WfT tb ∧ RowOk ps ∧ κ (.leaf (.lst (runL tb ps q))) Γ
end L3
/-! L3J: {k: e, ..}[y] with four keys; min of a list of data; xs.index(e) -/
namespace L3
open PySem PySem.Spec PyProof.Rows L2
section
variable {K : PySem.W.Frag} {F H : Hp}
mutual
theorem Rp.dp (sb : Sub F H) : ∀ (d : D) (v : V), d.pl = true → Rp K F v d → Dp K H v d.py
  | .non, _, _, .non => .non
  | .bl b, _, _, .bl _ => .bl b
  | .int i, _, _, .int _ => .int i
  | .str x, _, _, .str _ => .str x
  | .tun xs, _, h, .tun q _ r => .tup (sb.sqT (.inl (.inr ⟨_, q⟩))) (RpAll.dp sb xs _ (by simpa [D.pl] using h) r)
  | .tup xs, _, h, .tup q r => .tup (sb.sqT q) (RpAll.dp sb xs _ (by simpa [D.pl] using h) r)
  | .lst xs, _, h, .lst q r => .lst (.of (sb _ _ q)) (RpAll.dp sb xs _ (by simpa [D.pl] using h) r)
theorem RpAll.dp (sb : Sub F H) : ∀ (ds : List D) (vs : List V), pls ds = true → RpAll K F vs ds → DpAll K H vs (pys ds)
  | [], _, _, .nil => .nil
  | d :: ds, _, h, .cons r q => by
    have h' : d.pl = true ∧ pls ds = true := by simpa [pls] using h
    exact .cons (Rp.dp sb d _ h'.1 r) (RpAll.dp sb ds _ h'.2 q)
end
mutual
/-- no text within -/
def D.pn : D → Bool
  | .non | .bl _ | .int _ => true
  | .tup xs | .lst xs | .tun xs => pns xs
  | _ => false
def pns : List D → Bool
  | [] => true
  | x :: xs => x.pn && pns xs
end
mutual
theorem D.pn_pl : (d : D) → d.pn = true → d.pl = true
  | .non, _ => rfl
  | .bl _, _ => rfl
  | .int _, _ => rfl
  | .tun xs, h => by rw [D.pl]; exact pns_pls xs (by simpa [D.pn] using h)
  | .tup xs, h => by rw [D.pl]; exact pns_pls xs (by simpa [D.pn] using h)
  | .lst xs, h => by rw [D.pl]; exact pns_pls xs (by simpa [D.pn] using h)
  | .str _, h => by simp [D.pn] at h
  | .dic _, h => by simp [D.pn] at h
  | .ref _, h => by simp [D.pn] at h
  | .ty _, h => by simp [D.pn] at h
  | .scr _, h => by simp [D.pn] at h
theorem pns_pls : (xs : List D) → pns xs = true → pls xs = true
  | [], _ => rfl
  | x :: xs, h => by
    have h' : x.pn = true ∧ pns xs = true := by simpa [pns] using h
    rw [pls, D.pn_pl x h'.1, pns_pls xs h'.2]; rfl
end
mutual
theorem py_lay : ∀ d : D, d.pn = true → d.py.canLay0 = true
  | .non, _ => by simp [D.py, PyData.canLay0]
  | .bl _, _ => by simp [D.py, PyData.canLay0]
  | .int _, _ => by simp [D.py, PyData.canLay0]
  | .tun xs, h => by rw [D.py, PyData.canLay0]; exact pys_lay xs (by simpa [D.pn] using h)
  | .tup xs, h => by rw [D.py, PyData.canLay0]; exact pys_lay xs (by simpa [D.pn] using h)
  | .lst xs, h => by rw [D.py, PyData.canLay0]; exact pys_lay xs (by simpa [D.pn] using h)
  | .str _, h => by simp [D.pn] at h
  | .dic _, h => by simp [D.pn] at h
  | .ref _, h => by simp [D.pn] at h
  | .ty _, h => by simp [D.pn] at h
  | .scr _, h => by simp [D.pn] at h
theorem pys_lay : ∀ xs : List D, pns xs = true → PyData.canLayAll0 (pys xs) = true
  | [], _ => by simp [pys, PyData.canLayAll0]
  | x :: xs, h => by
    have h' : x.pn = true ∧ pns xs = true := by simpa [pns] using h
    simp [pys, PyData.canLayAll0, py_lay x h'.1, pys_lay xs h'.2]
end
theorem py_shaped {d : D} (h : d.pn = true) (hd : d.dep ≤ 64) : SeqAt.shaped d.py = true := by
  unfold SeqAt.shaped
  rw [py_lay d h, py_depth]
  simpa using hd
theorem Bp.dp (sb : Sub F H) {d : D} {v : V} (h : d.pl = true) (b : Bp K F H v d) : Dp K H v d.py := by
  cases b with
  | rp q => exact q.dp sb _ _ h
  | lst q r => exact .lst (.of q) (RpAll.dp sb _ _ (by simpa [D.pl] using h) r)
theorem pys_get : ∀ {xs : List D} {j : Nat} {z : PyData}, (pys xs)[j]? = some z → ∃ d, xs[j]? = some d ∧ z = d.py
  | [], _, _, h => by simp [pys] at h
  | x :: xs, 0, z, h => by simp [pys] at h; exact ⟨x, rfl, h.symm⟩
  | x :: xs, j + 1, z, h => by
    rw [pys] at h
    simpa using pys_get (xs := xs) (j := j) (by simpa using h)
theorem pys_at : ∀ {xs : List D} {j : Nat} {d : D}, xs[j]? = some d → (pys xs)[j]? = some d.py
  | [], _, _, h => by simp at h
  | x :: xs, 0, d, h => by simp at h; subst h; simp [pys]
  | x :: xs, j + 1, d, h => by
    rw [pys]
    simpa using pys_at (xs := xs) (j := j) (by simpa using h)
theorem pys_len : ∀ xs : List D, (pys xs).length = xs.length
  | [] => by simp [pys]
  | x :: xs => by simp [pys, pys_len xs]
end
section
variable {X : Cx} {pa : List V} {pos p p1 p2 p4 p6 : Pos} {a e : Expr} {es : List Expr} {x : Str} {i : Nat} {f : SE} {ga : SA} {gs : SAs}
theorem hu65 {A : Around} {k : Nat} (hr : Room k A) : A.units + 65 < cLine := by have := hr.un; omega
theorem hu1 {A : Around} {k : Nat} (hr : Room k A) : A.units + 1 < cLine := by have := hr.un; omega
/-! min of one list of data -/
def rMinD (K : PySem.W.Frag) : List V → Hp → VK → Prop := fun vs H Q => ∃ (a : Addr) (ws : List V) (d : PyData) (ds : List PyData), vs = [V.ref a] ∧ SqL K H a ws ∧ DpAll K H ws (d :: ds) ∧ PyData.plainAll (d :: ds) = true ∧
  PySem.W.AlikeAll (d :: ds) ∧ PyData.depthAll (d :: ds) ≤ 60 ∧ ∀ (j : Nat) (w : V), ws[j]? = some w → (d :: ds)[j]? = some (PySem.W.minD d ds) → Q w H
theorem cr_minD (hc : X.calm = true) (hu : X.A.units + 64 < cLine) : CallR X (.builtin "min") (rMinD X.K) := by
  intro pins s σ H vs us Q I r h
  obtain ⟨a, ws, d, ds, rfl, hs, ha, hp, hal, hd, q⟩ := h
  obtain ⟨its, rv, hl, _⟩ := I.list hs
  rw [Vals.ref1 r]
  obtain ⟨as, h4⟩ := Dp.readsAll I (d :: ds) _ its ha rv
  have hm := SeqAt.readsAll_map_plain (d :: ds) its as hp h4
  refine PySem.W.min_list_data (vs := its.toArray) (I.ok.hd hc) hl.isList h4 hal (by omega) fun j v h' tk bs hj rd hk => ?_
  have hj' : its[j]? = some v := by simpa using hj
  have hjl : j < its.length := (List.getElem?_eq_some_iff.mp hj').1
  have hwl : j < ws.length := by rw [rv.length]; exact hjl
  have pl : (PySem.W.minD d ds).plain = true := by
    have gen : ∀ (ds : List PyData) (d : PyData), d.plain = true → PyData.plainAll ds = true → (ds.foldl (fun a y => if PySem.W.dataLt y a then y else a) d).plain = true := by
      intro ds
      induction ds with
      | nil => intro d h _; exact h
      | cons z zs ih =>
        intro d h h2
        have h3 : z.plain = true ∧ PyData.plainAll zs = true := by simpa [PyData.plainAll] using h2
        rw [List.foldl_cons]
        refine ih _ ?_ h3.2
        split
        · exact h3.1
        · exact h
    have h3 : d.plain = true ∧ PyData.plainAll ds = true := by simpa [PyData.plainAll] using hp
    exact gen ds d h3.1 h3.2
  have e1 : SeqAt.readOf h' v = PySem.W.minD d ds := SeqAt.readOf_plain pl rd
  have e2 : (d :: ds)[j]? = some (SeqAt.readOf s.heap v) := by rw [← hm, List.getElem?_map, hj']; rfl
  have e3 : SeqAt.readOf s.heap v = PySem.W.minD d ds := by
    rw [← e1]
    obtain ⟨b2, r2, _, hmem, _⟩ := PySem.W.readsAll_at h4 j v hj'
    have pl2 : ((d :: ds).getD j .none).plain = true := by
      have gen : ∀ {zs : List PyData}, PyData.plainAll zs = true → ∀ z ∈ zs, z.plain = true := by
        intro zs
        induction zs with
        | nil => intro _ z hz; cases hz
        | cons y ys ih =>
          intro h z hz
          have h3 : y.plain = true ∧ PyData.plainAll ys = true := by simpa [PyData.plainAll] using h
          rcases List.mem_cons.mp hz with rfl | hz
          · exact h3.1
          · exact ih h3.2 z hz
      exact gen hp _ hmem
    rw [SeqAt.readOf_plain pl2 r2, SeqAt.readOf_plain pl2 (Reads.keeps hk r2)]
  rw [e3] at e2
  obtain ⟨w, hw⟩ : ∃ w, ws[j]? = some w := ⟨_, List.getElem?_eq_getElem hwl⟩
  refine ⟨w, H, I.kept hk, ?_, q j w hw e2⟩
  obtain ⟨u, hu2, ru⟩ := Vals.get rv hw
  rw [hj'] at hu2
  cases hu2
  exact ru
def kMinD : KN := fun ds P => match ds with
  | [.lst (d :: xs)] => pls (d :: xs) = true ∧ deps (d :: xs) ≤ 60 ∧ PySem.W.AlikeAll (pys (d :: xs)) ∧ ∀ (j : Nat) z, (d :: xs)[j]? = some z → z.py = PySem.W.minD d.py (pys xs) → P (.leaf z)
  | _ => False
theorem k_minD : OpN X pa (rMinD X.K) kMinD := by
  intro F H σ Γ R xs ds P Q o bs h fin
  unfold kMinD at h
  split at h
  · rename_i d xs
    obtain ⟨hp, hd, ha, h⟩ := h
    cases bs with
    | cons b1 bs =>
      cases bs
      obtain ⟨a, vs, rfl, q1, r1⟩ := b1.sqL o.sub
      have e1 : pys (d :: xs) = d.py :: pys xs := by rw [pys]
      refine ⟨a, vs, d.py, pys xs, rfl, q1, e1 ▸ RpAll.dp o.sub _ _ hp r1, e1 ▸ pys_plain _ hp, e1 ▸ ha, by rw [← e1, pys_depth]; exact hd, fun j w hw hj => ?_⟩
      rw [← e1] at hj
      obtain ⟨z, hz, ez⟩ := pys_get hj
      obtain ⟨w', hw', rw'⟩ := r1.get hz
      rw [hw] at hw'
      cases hw'
      exact fin _ _ (fin_leaf o rw' (h j z hz ez.symm))
  · exact h.elim
/-! xs.index(e) -/
def kIndex : K2 := fun dl dv P => match dl with
  | .lst xs => pns xs = true ∧ dv.pn = true ∧ deps xs ≤ 60 ∧ dv.dep ≤ 60 ∧ ∃ (j : Nat) (z : D), xs[j]? = some z ∧ eqD z dv = true ∧ (∀ (m : Nat) (z' : D), m < j → xs[m]? = some z' → eqD z' dv = false) ∧ P (.leaf (.int (j : Nat)))
  | _ => False
@[simp] def sIndex (i : Nat) (ga : SA) : SE := fun Γ κ Ex => (∃ xs, rdK Γ (.slot i) (· = .lst xs)) ∧ ga Γ (fun a Γ1 => rdK Γ1 (.slot i) fun dl => rdK Γ1 a fun dv => kIndex dl dv fun t => κ t Γ1) Ex
theorem slot_at {K : PySem.W.Frag} {F H : Hp} {σ : Sg} {Γ : List S} {R : Nat → List Addr} (o : OkF K pa F H σ Γ R) {q : D → Prop} (h : rdK Γ (.slot i) q) : ∃ v, σ[i]? = some (some v) := by
  refine slot_there o ?_
  unfold rdK at h
  dsimp only at h
  cases e : Γ[i]? with
  | none => rw [e] at h; exact h.elim
  | some s => exact ⟨s, rfl, fun z => by rw [e, z] at h; exact h.elim⟩
theorem ej_index (hu : X.A.units + 65 < cLine) (hp : PE X (.Name x p1) (tVar i)) {ga : SA} (ha : AJ X pa a ga)
    (hline : (p4.endLine == p6.line) = true := by rfl)
    (hbase : attributeBase (.Name x p1) "index" X.env (eval (.Name x p1) X.env) = eval (.Name x p1) X.env := by rfl)
    (hfew : ((backTo p6 (starEach [a] X.env)).all (fun x => !x.1) && (backToKw p6 (keywordEach [] X.env)).all (fun x => x.1.isSome)
      && decide (([a] : List Expr).length + ([] : List Keyword).length + (if ([] : List Keyword).isEmpty then 0 else 1) < 30)) = true := by rfl)
    (hse : starEach [a] X.env = (false, eval a X.env) :: starEach [] X.env := by rfl) :
    EJ X pa (.Call (.Attribute (.Name x p1) "index" p4) [a] [] p6) (sIndex i ga) := ⟨fun W tk =>
  PE.imp (pe_bm PySem.F.plainAttrs_list PySem.F.slot_list_index PySem.F.type_list_index (mt_indexD hu) hp (pa_cons (ha.run W tk) pa_nil hse) hbase hfew hline hse) fun σ H Q ⟨F, Γ, R, Ex, Kc, o, xl, ⟨⟨xs0, q0⟩, q⟩, k⟩ => by
    obtain ⟨v, ev⟩ := slot_at o q0
    obtain ⟨d0, b0, rfl⟩ := rdK_ok o (a := .slot i) ev q0
    obtain ⟨l, vs0, rfl, hl0, _⟩ := b0.sqL o.sub
    refine ⟨_, ev, .inl ⟨rfl, _, hl0⟩, F, Γ, R, Ex, _, o, xl, q, fun ar Γ1 h1 v F1 H1 R1 o1 s1 a1 => ?_⟩
    obtain ⟨dl, bl, h2⟩ := rdK_ok o1 (a := .slot i) ev h1
    obtain ⟨dv, bv, h3⟩ := rdK_ok o1 a1 h2
    unfold kIndex at h3
    split at h3
    · rename_i xs
      obtain ⟨hp1, hp2, hd1, hd2, j, z, e1, e2, e3, h3⟩ := h3
      refine ⟨l, v, dv.py, pys xs, j, z.py, rfl, rfl, ?_, bv.dp o1.sub (D.pn_pl _ hp2), ?_, py_shaped hp2 (by omega), pys_at e1, e2, fun m z' hm hz => ?_, ?_⟩
      · have := bl.dp o1.sub (D.pn_pl (.lst xs) (by rw [D.pn]; exact hp1))
        rw [D.py] at this
        exact this
      · have := py_shaped (d := .lst xs) (by rw [D.pn]; exact hp1) (by rw [D.dep]; omega)
        rw [D.py] at this
        exact this
      · obtain ⟨d', hd', rfl⟩ := pys_get hz
        exact e3 m d' hm hd'
      · exact k _ _ h3 _ F1 H1 R1 [] o1 s1 (.leaf (.int _))
    · exact h3.elim⟩
/-! {k: e, ..}[y] -/
theorem OkF.updY {K : PySem.W.Frag} {F H : Hp} {σ : Sg} {Γ : List S} {R : Nat → List Addr} {p : Addr} (o : OkF K pa F H σ Γ R) {x : HO} (nF : F p = none) (nR : ∀ i, p ∉ R i) : OkF K pa F (upd H p x) σ Γ R := by
  refine ⟨fun a y q => ?_, o.len, fun i s e => ?_, o.dj, o.fr, fun i a h => ?_, o.sys⟩
  · rw [upd_ne (fun e => by rw [e, nF] at q; cases q)]; exact o.sub a y q
  · have q := o.sl i s e
    cases s with
    | un => exact q
    | v d => exact q
    | o j t =>
      obtain ⟨v, e, p1, z⟩ := q
      exact ⟨v, e, p1.mono .refl _ _ _ fun a ha => upd_ne fun e => nR i (e ▸ ha), z⟩
  · rw [upd_ne (fun e : a = p => nR i (e ▸ h))]; exact o.hs i a h
@[simp] def sDget4 (k1 k2 k3 k4 : Str) (g1 g2 g3 g4 gy : SA) : SE := fun Γ κ Ex => g1 Γ (fun a1 Γ1 => g2 Γ1 (fun a2 Γ2 => g3 Γ2 (fun a3 Γ3 => g4 Γ3 (fun a4 Γ4 => gy Γ4 (fun b Γ5 => rdK Γ5 b fun y =>
  ∃ z, y = .str z ∧ vals [a1, a2, a3, a4] fun ds => match ds with
    | [d1, d2, d3, d4] => (z = k1 ∧ κ (.leaf d1) Γ5) ∨ (z = k2 ∧ κ (.leaf d2) Γ5) ∨ (z = k3 ∧ κ (.leaf d3) Γ5) ∨ (z = k4 ∧ κ (.leaf d4) Γ5)
    | _ => False) Ex) Ex) Ex) Ex) Ex
theorem ej_dget4 {k1 k2 k3 k4 : Str} {u1 u2 u3 u4} {q1 q2 q3 q4 : Pos} {e1 e2 e3 e4 y : Expr} {g1 g2 g3 g4 gy : SA} (hu : X.A.units + 1 < cLine) (h1 : AJ X pa e1 g1) (h2 : AJ X pa e2 g2) (h3 : AJ X pa e3 g3) (h4 : AJ X pa e4 g4) (hy : AJ X pa y gy) (hs : NoSl y)
    (hd : k1 ≠ k2 ∧ k1 ≠ k3 ∧ k1 ≠ k4 ∧ k2 ≠ k3 ∧ k2 ≠ k4 ∧ k3 ≠ k4 := by decide) :
    EJ X pa (.Subscript (.Dict [some (.Constant (.str k1) u1 q1), some (.Constant (.str k2) u2 q2), some (.Constant (.str k3) u3 q3), some (.Constant (.str k4) u4 q4)] [e1, e2, e3, e4] p) y pos) (sDget4 k1 k2 k3 k4 g1 g2 g3 g4 gy) := ⟨fun W tk => by
  refine PE.imp (pe_dget hu (pe_disp (pps_cons pe_str (h1.run W tk) (pps_cons pe_str (h2.run W tk) (pps_cons pe_str (h3.run W tk) (pps_cons pe_str (h4.run W tk) pps_nil)))) (by rfl) (by rfl) (fun z => by cases z) (show 4 ≤ 15 by decide)) (hy.run W tk) hs) fun σ H Q ⟨F, Γ, R, Ex, Kc, o, xl, q, kk⟩ p hp => ?_
  obtain ⟨o0, s0⟩ := o.newH (x := .dK []) hp
  have nF : F p = none := o.sub.none hp
  have nR : ∀ i, p ∉ R i := fun i h => o.hs i p h hp
  refine ⟨F, Γ, R, Ex, _, o0, xl.step s0, q, fun a1 Γ1 c1 v1 F1 H1 R1 o1 s1 b1 => ⟨F1, Γ1, R1, Ex, _, o1, (xl.step s0).step s1, c1, fun a2 Γ2 c2 v2 F2 H2 R2 o2 s2 b2 =>
    ⟨F2, Γ2, R2, Ex, _, o2, ((xl.step s0).step s1).step s2, c2, fun a3 Γ3 c3 v3 F3 H3 R3 o3 s3 b3 => ⟨F3, Γ3, R3, Ex, _, o3, (((xl.step s0).step s1).step s2).step s3, c3, fun a4 Γ4 c4 v4 F4 H4 R4 o4 s4 b4 => ?_⟩⟩⟩⟩
  have st := ((s1.trans s2).trans s3).trans s4
  have hp4 : H4 p = some (.dK []) := st.keep p _ upd_same nR
  have nR4 : ∀ i, p ∉ R4 i := fun i h => by
    rcases st.rn i p h with z | ⟨j, z⟩
    · rw [upd_same] at z; cases z
    · exact nR j z
  have nF4 : F4 p = none := by
    cases e : F4 p with
    | none => rfl
    | some ob =>
      rcases st.fn p (by rw [e]; simp) with z | z | ⟨j, z⟩
      · exact absurd nF z
      · rw [upd_same] at z; cases z
      · exact (nR j z).elim
  obtain ⟨d1, d2, d3, d4, d5, d6⟩ := hd
  refine ⟨hp4, [(.inr k1, v1), (.inr k2, v2), (.inr k3, v3), (.inr k4, v4)], rfl, show 4 ≤ 15 by decide, ?_⟩
  have em : mergeK [] [((.inr k1 : Key), v1), (.inr k2, v2), (.inr k3, v3), (.inr k4, v4)] = [(.inr k1, v1), (.inr k2, v2), (.inr k3, v3), (.inr k4, v4)] := by
    simp [mergeK, putK, d1, d2, d3, d4, d5, d6, Ne.symm d1, Ne.symm d2, Ne.symm d3, Ne.symm d4, Ne.symm d5, Ne.symm d6]
  rw [em]
  generalize hK : HO.dK [((.inr k1 : Key), v1), (.inr k2, v2), (.inr k3, v3), (.inr k4, v4)] = ob
  have o5 := o4.updY (x := ob) nF4 nR4
  have s5 : Stp F H R F4 (upd H4 p ob) R4 [] := by
    have t := s0.trans st
    refine ⟨t.sub, fun a y e n => ?_, t.rn, fun _ h => (nomatch h), t.fn⟩
    rw [upd_ne (fun e' => by rw [e', hp] at e; cases e)]
    exact t.keep a y e n
  refine ⟨F4, Γ4, R4, Ex, _, o5, xl.step s5, c4, fun b Γ5 c5 v5 F5 H5 R5 o6 s6 b5 => ?_⟩
  obtain ⟨dy, by5, z, rfl, c6⟩ := rdK_ok o6 b5 c5
  have hp5 : H5 p = some ob := s6.keep p _ upd_same nR4
  obtain ⟨ds, rp, c7⟩ := vals_ok (F := F5) (vs := [v1, v2, v3, v4]) (.cons (b1.mono (((s2.trans s3).trans s4).sub.trans s6.sub)) (.cons (b2.mono ((s3.trans s4).sub.trans s6.sub)) (.cons (b3.mono (s4.sub.trans s6.sub)) (.cons (b4.mono s6.sub) .nil)))) c6
  have ez := by5.str
  subst ez
  have lf : ∀ {v : V} {d : D}, Kc (.leaf d) Γ5 → Rp X.K F5 v d → Q v H5 := fun hk r => kk _ _ hk _ F5 _ R5 [] o6 (s5.trans s6) (.leaf r)
  cases rp with
  | cons r1 rp => cases rp with
    | cons r2 rp => cases rp with
      | cons r3 rp => cases rp with
        | cons r4 rp => cases rp with
          | nil =>
            rcases c7 with ⟨rfl, c7⟩ | ⟨rfl, c7⟩ | ⟨rfl, c7⟩ | ⟨rfl, c7⟩
            · exact ⟨p, v1, rfl, .inl ⟨_, .inr z, .inl (hK ▸ hp5), rfl, by simp [valV]⟩, lf c7 r1⟩
            · exact ⟨p, v2, rfl, .inl ⟨_, .inr z, .inl (hK ▸ hp5), rfl, by simp [valV, d1]⟩, lf c7 r2⟩
            · exact ⟨p, v3, rfl, .inl ⟨_, .inr z, .inl (hK ▸ hp5), rfl, by simp [valV, d2, d4]⟩, lf c7 r3⟩
            · exact ⟨p, v4, rfl, .inl ⟨_, .inr z, .inl (hK ▸ hp5), rfl, by simp [valV, d3, d5, d6]⟩, lf c7 r4⟩⟩
/-! t if c else e, as a test -/
theorem pw_if {c a b : Expr} {tA ta tb : TT} (hc : PT X c tA) (ha : PT X a ta) (hb : PT X b tb) : PW X (.IfExp c a b pos) (fun σ H Q => tA σ H fun k H1 => if k = true then ta σ H1 Q else tb σ H1 Q) := by
  refine ⟨fun whole pins s σ H Q I h => ?_⟩
  refine isTrue_IfExp (wpAny_mono (hc.run pins s σ H _ I h) (fun d s1 h1 => ?_) fun _ _ x => x)
  obtain ⟨H1, I1, q1⟩ := h1
  cases d with
  | true => exact ha.run pins s1 σ H1 Q I1 q1
  | false => exact hb.run pins s1 σ H1 Q I1 q1
@[simp] def cIf (ft fa fb : ST) : ST := fun Γ κ Ex => ft Γ (fun b Γ' => if b = true then fa Γ' κ Ex else fb Γ' κ Ex) Ex
theorem wj_if {c a b : Expr} {ft fa fb : ST} (hc : TJ X pa c ft) (ha : TJ X pa a fa) (hb : TJ X pa b fb) : WJ X pa (.IfExp c a b pos) (cIf ft fa fb) := ⟨fun W tk => PW.imp (pw_if (hc.run W tk) (ha.run W tk) (hb.run W tk)) fun σ H Q ⟨F, Γ, R, Ex, Kc, o, xl, q, k⟩ =>
  ⟨F, Γ, R, Ex, _, o, xl, q, fun y Γ' h1 F' H' R' o' s' => by
    cases y with
    | true => rw [if_pos rfl] at h1 ⊢; exact ⟨F', Γ', R', Ex, _, o', xl.step s', h1, fun z Γ2 h2 F2 H2 R2 o2 s2 => k _ _ h2 F2 H2 R2 o2 (s'.trans s2)⟩
    | false => rw [if_neg Bool.false_ne_true] at h1 ⊢; exact ⟨F', Γ', R', Ex, _, o', xl.step s', h1, fun z Γ2 h2 F2 H2 R2 o2 s2 => k _ _ h2 F2 H2 R2 o2 (s'.trans s2)⟩⟩⟩
end
end L3
/-! L3L: what the told tables mean -/
namespace L3
open PySem PySem.Spec PyProof.Rows L2
abbrev Q4 := Int × Int × Int × Int
def q4D (z : Q4) : D := .tup [.int z.1, .int z.2.1, .int z.2.2.1, .int z.2.2.2]
def qd (ps : List (Int × List D × Bool)) (q : Int) (k : Nat) : Q4 :=
  ((k : Int), (ps.getD k (0, [], false)).1, (ps.getD k (0, [], false)).1 + ((ps.getD k (0, [], false)).2.1.length : Nat), vI (ps.getD k (0, [], false)) q)
def cs (a b : Int) : Str := if a < b then "<" else if a = b then "=" else ">"
theorem cs_is (a b : Int) : ∃ k : Nat, k < 3 ∧ sgn3 a b = (k : Int) ∧ cs a b = sgs.getD k "" ∧ (k = 0 ↔ a < b) ∧ (k = 1 ↔ a = b) := by
  unfold sgn3 cs
  by_cases h : a < b
  · rw [if_pos h, if_pos h]
    exact ⟨0, by decide, rfl, rfl, by simp [h], by simp; omega⟩
  · rw [if_neg h, if_neg h]
    by_cases h2 : a = b
    · rw [if_pos h2, if_pos h2]
      exact ⟨1, by decide, rfl, rfl, by simp [h], by simp [h2]⟩
    · rw [if_neg h2, if_neg h2]
      exact ⟨2, by decide, rfl, rfl, by simp [h], by simp [h2]⟩
def tkQ (x : Str) (n o : Q4) : Bool := takeB x (cs n.2.1 o.2.1) (cs n.2.2.1 o.2.2.1) (cs n.2.2.2 o.2.2.2)
def fld (t : Q4 → Q4 → Bool) (x : Q4) (xs : List Q4) : Q4 := xs.foldl (fun a y => if t y a = true then y else a) x
def voteS (a : Q4 × Bool) (y : Q4) : Q4 × Bool := if y.2.2.2 = a.1.2.2.2 then (a.1, false) else if a.2 = true then (y, false) else (a.1, true)
def mostQ (x : Q4) : List Q4 → Q4
  | y :: z :: _ => if y.2.2.2 ≠ x.2.2.2 ∧ z.2.2.2 ≠ x.2.2.2 then z else x
  | _ => x
def mean (z : Str) (x : Q4) (xs : List Q4) : Q4 :=
  if z = "vote" then (xs.foldl voteS (x, false)).1 else if z = "most" then mostQ x xs else fld (tkQ ((rulesL.lookup z).getD "")) x xs
section
variable {ps : List (Int × List D × Bool)} {q : Int}
theorem ent3 (o n : Int × List D × Bool) (q : Int) : ∃ a b c : Nat, a < 3 ∧ b < 3 ∧ c < 3 ∧ (entI o n q).toNat = 9 * a + 3 * b + c ∧ cs n.1 o.1 = sgs.getD a "" ∧ cs (n.1 + (n.2.1.length : Nat)) (o.1 + (o.2.1.length : Nat)) = sgs.getD b "" ∧ cs (vI n q) (vI o q) = sgs.getD c "" ∧ (c = 1 ↔ vI n q = vI o q) := by
  obtain ⟨a, a1, a2, a3, _⟩ := cs_is n.1 o.1
  obtain ⟨b, b1, b2, b3, _⟩ := cs_is (n.1 + (n.2.1.length : Nat)) (o.1 + (o.2.1.length : Nat))
  obtain ⟨c, c1, c2, c3, _, c4⟩ := cs_is (vI n q) (vI o q)
  refine ⟨a, b, c, a1, b1, c1, ?_, a3, b3, c3, c4⟩
  unfold entI
  rw [a2, b2, c2]
  omega
theorem oneB_at (x : Str) {a b c : Nat} (ha : a < 3) (hb : b < 3) (hc : c < 3) : ((oneB x).getD 0 []).getD (9 * a + 3 * b + c) (false, 0) = (takeB x (sgs.getD a "") (sgs.getD b "") (sgs.getD c ""), 0) := by
  obtain rfl | rfl | rfl : a = 0 ∨ a = 1 ∨ a = 2 := by omega
  all_goals obtain rfl | rfl | rfl : b = 0 ∨ b = 1 ∨ b = 2 := by omega
  all_goals obtain rfl | rfl | rfl : c = 0 ∨ c = 1 ∨ c = 2 := by omega
  all_goals rfl
theorem nx_one (x : Str) (o k : Nat) : nxH (oneB x) ps q (some (o, 0)) k = (if tkQ x (qd ps q k) (qd ps q o) = true then k else o, 0) := by
  obtain ⟨a, b, c, ha, hb, hc, e, e1, e2, e3, _⟩ := ent3 (ps.getD o (0, [], false)) (ps.getD k (0, [], false)) q
  have z : entA (oneB x) 0 (ps.getD o (0, [], false)) (ps.getD k (0, [], false)) q = (tkQ x (qd ps q k) (qd ps q o), 0) := by
    unfold entA tkQ qd
    rw [e, oneB_at x ha hb hc, ← e1, ← e2, ← e3]
  unfold nxH
  simp only [z]
  rfl
theorem last_one (x : Str) : ∀ (ks : List Nat) (o : Nat), ∃ j, lastH (some (o, 0)) (stp (oneB x) ps q (some (o, 0)) ks) = some (j, 0) ∧ qd ps q j = fld (tkQ x) (qd ps q o) (ks.map (qd ps q))
  | [], o => ⟨o, rfl, rfl⟩
  | k :: ks, o => by
    rw [stp, lastH_cons, nx_one]
    obtain ⟨j, h1, h2⟩ := last_one x ks (if tkQ x (qd ps q k) (qd ps q o) = true then k else o)
    refine ⟨j, h1, ?_⟩
    rw [h2, List.map_cons]
    unfold fld
    rw [List.foldl_cons]
    congr 1
    split <;> rfl
theorem vote_at : ∀ a < 3, ∀ b < 3, ∀ c < 3, (voteB.getD 0 []).getD (9 * a + 3 * b + c) (false, 0) = (false, if c = 1 then 0 else 1) ∧ (voteB.getD 1 []).getD (9 * a + 3 * b + c) (false, 0) = (if c = 1 then false else true, 0) := by decide
theorem most_at : ∀ a < 3, ∀ b < 3, ∀ c < 3, (mostB.getD 0 []).getD (9 * a + 3 * b + c) (false, 0) = (false, if c = 1 then 1 else 2) ∧ (mostB.getD 1 []).getD (9 * a + 3 * b + c) (false, 0) = (false, 1) ∧ (mostB.getD 2 []).getD (9 * a + 3 * b + c) (false, 0) = (if c = 1 then false else true, 1) := by decide
theorem last_vote : ∀ (ks : List Nat) (o : Nat) (d : Bool), ∃ j s, lastH (some (o, d.toNat)) (stp voteB ps q (some (o, d.toNat)) ks) = some (j, s) ∧ qd ps q j = ((ks.map (qd ps q)).foldl voteS (qd ps q o, d)).1
  | [], o, d => ⟨o, _, rfl, rfl⟩
  | k :: ks, o, d => by
    obtain ⟨a, b, c, ha, hb, hc, e, _, _, _, e4⟩ := ent3 (ps.getD o (0, [], false)) (ps.getD k (0, [], false)) q
    have va := vote_at a ha b hb c hc
    have z : nxH voteB ps q (some (o, d.toNat)) k = (if c = 1 then (o, false.toNat) else if d = true then (k, false.toNat) else (o, true.toNat)) := by
      unfold nxH entA
      dsimp only
      rw [e]
      cases d
      · simp only [Bool.toNat_false, va.1]
        by_cases h : c = 1 <;> simp [h]
      · simp only [Bool.toNat_true, va.2]
        by_cases h : c = 1 <;> simp [h]
    have z2 : voteS (qd ps q o, d) (qd ps q k) = (if c = 1 then (qd ps q o, false) else if d = true then (qd ps q k, false) else (qd ps q o, true)) := by
      unfold voteS
      have : ((qd ps q k).2.2.2 = (qd ps q o).2.2.2) ↔ c = 1 := e4.symm
      simp only [this]
    rw [stp, lastH_cons, List.map_cons, List.foldl_cons, z, z2]
    by_cases h : c = 1
    · rw [if_pos h, if_pos h]; exact last_vote ks o false
    · rw [if_neg h, if_neg h]
      cases d
      · exact last_vote ks o true
      · exact last_vote ks k false
theorem nx_most (o k : Nat) (s : Nat) : nxH mostB ps q (some (o, 0)) k = (o, if (qd ps q k).2.2.2 = (qd ps q o).2.2.2 then 1 else 2) ∧ nxH mostB ps q (some (o, 1)) k = (o, 1) ∧ nxH mostB ps q (some (o, 2)) k = (if (qd ps q k).2.2.2 = (qd ps q o).2.2.2 then o else k, 1) := by
  obtain ⟨a, b, c, ha, hb, hc, e, _, _, _, e4⟩ := ent3 (ps.getD o (0, [], false)) (ps.getD k (0, [], false)) q
  have va := most_at a ha b hb c hc
  have e5 : ((qd ps q k).2.2.2 = (qd ps q o).2.2.2) ↔ c = 1 := e4.symm
  unfold nxH entA
  simp only [e5, e, va]
  by_cases h : c = 1 <;> simp [h]
theorem last_most1 : ∀ (ks : List Nat) (o : Nat), lastH (some (o, 1)) (stp mostB ps q (some (o, 1)) ks) = some (o, 1)
  | [], o => rfl
  | k :: ks, o => by rw [stp, lastH_cons, (nx_most o k 0).2.1]; exact last_most1 ks o
theorem last_most : ∀ (ks : List Nat) (o : Nat), ∃ j s, lastH (some (o, 0)) (stp mostB ps q (some (o, 0)) ks) = some (j, s) ∧ qd ps q j = mostQ (qd ps q o) (ks.map (qd ps q))
  | [], o => ⟨o, _, rfl, rfl⟩
  | [k], o => by
    rw [stp, lastH_cons, (nx_most o k 0).1]
    exact ⟨o, _, rfl, rfl⟩
  | k :: l :: ks, o => by
    rw [stp, lastH_cons, (nx_most o k 0).1]
    show ∃ j s, _ ∧ qd ps q j = if _ ∧ _ then qd ps q l else qd ps q o
    by_cases h : (qd ps q k).2.2.2 = (qd ps q o).2.2.2
    · rw [if_pos h, if_neg (fun z => z.1 h), last_most1]
      exact ⟨o, _, rfl, rfl⟩
    · rw [if_neg h, stp, lastH_cons, (nx_most o l 0).2.2]
      by_cases h2 : (qd ps q l).2.2.2 = (qd ps q o).2.2.2
      · rw [if_pos h2, if_neg (fun z => z.2 h2), last_most1]
        exact ⟨o, _, rfl, rfl⟩
      · rw [if_neg h2, if_pos ⟨h, h2⟩, last_most1]
        exact ⟨l, _, rfl, rfl⟩
theorem ownr_of {tb : List (List (Bool × Int))} {k : Nat} {ks : List Nat} (h : ovs q 0 ps = k :: ks) {j s : Nat} (e : lastH (some (k, 0)) (stp tb ps q (some (k, 0)) ks) = some (j, s)) : ownr tb ps q = some j := by
  unfold ownr
  rw [h, stp]
  have : lastH none ((k, nxH tb ps q none k) :: stp tb ps q (some (nxH tb ps q none k)) ks) = some (j, s) := by rw [lastH_cons]; exact e
  unfold lastH at this
  cases hx : ((k, nxH tb ps q none k) :: stp tb ps q (some (nxH tb ps q none k)) ks).getLast? with
  | none => rw [hx] at this; cases this
  | some x =>
    rw [hx] at this
    have := Option.some.inj this
    rw [Option.map_some, this]
theorem ownr_non {tb : List (List (Bool × Int))} (h : ovs q 0 ps = []) : ownr tb ps q = none := by
  unfold ownr
  rw [h]
  rfl
theorem told_is {z : Str} (h : z ∈ names10) : ∃ tb, toldT z = some (tbD tb) ∧ WfT tb ∧ tb.length ≤ 3 ∧ ∀ ps q k ks, ovs q 0 ps = k :: ks → ∃ j, ownr tb ps q = some j ∧ qd ps q j = mean z (qd ps q k) (ks.map (qd ps q)) := by
  have one : ∀ x, (rulesL.lookup z).getD "" = x → z ≠ "vote" → z ≠ "most" → ∀ ps q k ks, ovs q 0 ps = k :: ks → ∃ j, ownr (oneB x) ps q = some j ∧ qd ps q j = mean z (qd ps q k) (ks.map (qd ps q)) := by
    rintro x rfl h1 h2 ps q k ks e
    obtain ⟨j, e1, e2⟩ := last_one (ps := ps) (q := q) ((rulesL.lookup z).getD "") ks k
    refine ⟨j, ownr_of e e1, ?_⟩
    unfold mean
    rw [if_neg h1, if_neg h2]
    exact e2
  simp only [names10, List.mem_cons, List.not_mem_nil, or_false] at h
  rcases h with rfl | rfl | rfl | rfl | rfl | rfl | rfl | rfl | rfl | rfl
  · exact ⟨oneB "takes_never", by rw [← oneB_D]; rfl, oneB_wf _, by decide, one _ rfl (by decide) (by decide)⟩
  · exact ⟨oneB "takes_always", by rw [← oneB_D]; rfl, oneB_wf _, by decide, one _ rfl (by decide) (by decide)⟩
  · exact ⟨oneB "takes_begins", by rw [← oneB_D]; rfl, oneB_wf _, by decide, one _ rfl (by decide) (by decide)⟩
  · exact ⟨oneB "takes_ends", by rw [← oneB_D]; rfl, oneB_wf _, by decide, one _ rfl (by decide) (by decide)⟩
  · exact ⟨oneB "takes_cover", by rw [← oneB_D]; rfl, oneB_wf _, by decide, one _ rfl (by decide) (by decide)⟩
  · exact ⟨oneB "takes_inner", by rw [← oneB_D]; rfl, oneB_wf _, by decide, one _ rfl (by decide) (by decide)⟩
  · exact ⟨oneB "takes_least", by rw [← oneB_D]; rfl, oneB_wf _, by decide, one _ rfl (by decide) (by decide)⟩
  · exact ⟨oneB "takes_ranked", by rw [← oneB_D]; rfl, oneB_wf _, by decide, one _ rfl (by decide) (by decide)⟩
  · refine ⟨voteB, rfl, voteB_wf, by decide, fun ps q k ks e => ?_⟩
    obtain ⟨j, s, e1, e2⟩ := last_vote (ps := ps) (q := q) ks k false
    exact ⟨j, ownr_of e e1, e2⟩
  · refine ⟨mostB, rfl, mostB_wf, by decide, fun ps q k ks e => ?_⟩
    obtain ⟨j, s, e1, e2⟩ := last_most (ps := ps) (q := q) ks k
    exact ⟨j, ownr_of e e1, e2⟩
end
/-! keys -/
abbrev KT3 := Int × Int × Int
def kyD (b : Bool) (t : KT3) : D := if b = true then .tup [.int t.1, .int t.2.1, .int t.2.2] else .int t.1
def lt3 (x y : KT3) : Bool := decide (x.1 < y.1 ∨ (x.1 = y.1 ∧ (x.2.1 < y.2.1 ∨ (x.2.1 = y.2.1 ∧ x.2.2 < y.2.2))))
def ltF (f : Q4 → KT3) (n o : Q4) : Bool := lt3 (f n) (f o)
theorem lt3_iff {x y : KT3} : lt3 x y = true ↔ (x.1 < y.1 ∨ (x.1 = y.1 ∧ (x.2.1 < y.2.1 ∨ (x.2.1 = y.2.1 ∧ x.2.2 < y.2.2)))) := by
  unfold lt3
  exact decide_eq_true_iff
theorem lt3_tr {x y z : KT3} (h1 : lt3 x y = true) (h2 : lt3 y z = true) : lt3 x z = true := by
  rw [lt3_iff] at *
  omega
theorem lt3_irr (x : KT3) : lt3 x x = false := by
  rw [← Bool.not_eq_true, lt3_iff]
  omega
theorem lt3_tot {x y : KT3} (h1 : lt3 x y = false) (h2 : lt3 y x = false) : x = y := by
  rw [← Bool.not_eq_true, lt3_iff] at *
  obtain ⟨a, b, c⟩ := x
  obtain ⟨a', b', c'⟩ := y
  simp only at h1 h2
  have e1 : a = a' := by omega
  have e2 : b = b' := by omega
  have e3 : c = c' := by omega
  rw [e1, e2, e3]
/-- the fold finds the first one of the least key -/
theorem fld_first (f : Q4 → KT3) : ∀ (xs : List Q4) (x : Q4), ∃ j : Nat, (x :: xs)[j]? = some (fld (ltF f) x xs) ∧ (∀ (m : Nat) (z : Q4), m < j → (x :: xs)[m]? = some z → f z ≠ f (fld (ltF f) x xs)) ∧ lt3 (f x) (f (fld (ltF f) x xs)) = false
  | [], x => ⟨0, rfl, fun m z h => by omega, lt3_irr _⟩
  | y :: ys, x => by
    have e : fld (ltF f) x (y :: ys) = fld (ltF f) (if ltF f y x = true then y else x) ys := rfl
    rw [e]
    by_cases h : ltF f y x = true
    · rw [if_pos h]
      obtain ⟨j, h1, h2, h3⟩ := fld_first f ys y
      refine ⟨j + 1, by rw [List.getElem?_cons_succ]; exact h1, fun m z hm hz => ?_, ?_⟩
      · cases m with
        | zero =>
          cases hz
          intro e
          rw [← e] at h3
          have : lt3 (f y) (f x) = true := h
          rw [h3] at this
          cases this
        | succ m =>
          rw [List.getElem?_cons_succ] at hz
          exact h2 m z (by omega) hz
      · cases e : lt3 (f x) (f (fld (ltF f) y ys)) with
        | false => rfl
        | true =>
          have := lt3_tr (show lt3 (f y) (f x) = true from h) e
          rw [h3] at this
          cases this
    · rw [if_neg h]
      obtain ⟨j, h1, h2, h3⟩ := fld_first f ys x
      cases j with
      | zero => exact ⟨0, h1, fun m z hm => by omega, h3⟩
      | succ j =>
        rw [List.getElem?_cons_succ] at h1
        refine ⟨j + 2, by rw [List.getElem?_cons_succ, List.getElem?_cons_succ]; exact h1, fun m z hm hz => ?_, h3⟩
        cases m with
        | zero => exact h2 0 z (by omega) hz
        | succ m =>
          cases m with
          | zero =>
            have ez : y = z := by simpa using hz
            subst ez
            intro e
            have hx := h2 0 x (by omega) rfl
            have h4 : lt3 (f y) (f x) = false := Bool.not_eq_true _ ▸ h
            rw [e] at h4
            exact hx (lt3_tot h3 h4)
          | succ m =>
            rw [List.getElem?_cons_succ, List.getElem?_cons_succ] at hz
            exact h2 (m + 1) z (by omega) (by rw [List.getElem?_cons_succ]; exact hz)
/-- a key that is one number is one -/
def OkK (b : Bool) (t : KT3) : Prop := b = false → t.2 = (0, 0)
theorem ky_lt {b : Bool} {s t : KT3} (hs : OkK b s) (ht : OkK b t) : PySem.W.dataLt (kyD b s).py (kyD b t).py = lt3 s t := by
  obtain ⟨a, c, d⟩ := s
  obtain ⟨a', c', d'⟩ := t
  cases b with
  | false =>
    have h1 := hs rfl
    have h2 := ht rfl
    simp only [Prod.mk.injEq] at h1 h2
    obtain ⟨rfl, rfl⟩ := h1
    obtain ⟨rfl, rfl⟩ := h2
    show PySem.W.dataLt (.int a) (.int a') = _
    rw [PySem.W.dataLt_int]
    unfold lt3
    simp
  | true =>
    show PySem.W.dataLt (PySem.W.Datum.toD (PySem.W.Tup.mk [a, c, d])) (PySem.W.Datum.toD (PySem.W.Tup.mk [a', c', d'])) = _
    rw [PySem.W.DatumOrd.lt_eq]
    show PySem.W.listLt [a, c, d] [a', c', d'] = _
    unfold lt3
    rw [PySem.W.listLt, PySem.W.listLt, PySem.W.listLt, PySem.W.listLt]
    show (if a = a' then (if c = c' then (if d = d' then false else decide (d < d')) else decide (c < c')) else decide (a < a')) = _
    by_cases h1 : a = a'
    · subst h1
      by_cases h2 : c = c'
      · subst h2
        by_cases h3 : d = d'
        · subst h3; simp
        · simp [h3]
      · simp [h2]
    · simp [h1]
theorem ky_eq {b : Bool} {s t : KT3} (hs : OkK b s) (ht : OkK b t) : eqD (kyD b s) (kyD b t) = decide (s = t) := by
  obtain ⟨a, c, d⟩ := s
  obtain ⟨a', c', d'⟩ := t
  cases b with
  | false =>
    have h1 := hs rfl
    have h2 := ht rfl
    simp only [Prod.mk.injEq] at h1 h2
    obtain ⟨rfl, rfl⟩ := h1
    obtain ⟨rfl, rfl⟩ := h2
    show PyData.eqv (.int a) (.int a') = _
    by_cases h : a = a' <;> simp [PyData.eqv, h]
  | true =>
    show PyData.eqv (PySem.W.Datum.toD (PySem.W.Tup.mk [a, c, d])) (PySem.W.Datum.toD (PySem.W.Tup.mk [a', c', d'])) = _
    rw [PySem.W.Datum.eqv]
    simp
theorem ky_inj {b : Bool} {s t : KT3} (hs : OkK b s) (ht : OkK b t) (h : (kyD b s).py = (kyD b t).py) : s = t := by
  have e := ky_eq hs ht
  unfold eqD at e
  rw [h] at e
  have e2 := ky_eq ht ht
  unfold eqD at e2
  rw [e2] at e
  simpa using e.symm
theorem ky_pn (b : Bool) (t : KT3) : (kyD b t).pn = true ∧ (kyD b t).dep ≤ 1 := by
  cases b <;> simp [kyD, D.pn, pns, D.dep, deps]
theorem kys_pn (b : Bool) (f : Q4 → KT3) : ∀ xs : List Q4, pns (xs.map fun z => kyD b (f z)) = true ∧ deps (xs.map fun z => kyD b (f z)) ≤ 1
  | [] => by simp [pns, deps]
  | x :: xs => by
    have h := kys_pn b f xs
    have h2 := ky_pn b (f x)
    rw [List.map_cons, pns, deps, h.1, h2.1]
    exact ⟨rfl, by omega⟩
theorem kys_min {b : Bool} {f : Q4 → KT3} (ok : ∀ z, OkK b (f z)) : ∀ (xs : List Q4) (x : Q4), PySem.W.minD (kyD b (f x)).py (pys (xs.map fun z => kyD b (f z))) = (kyD b (f (fld (ltF f) x xs))).py
  | [], x => rfl
  | y :: ys, x => by
    have ih := kys_min ok ys (if ltF f y x = true then y else x)
    rw [List.map_cons, pys]
    unfold PySem.W.minD at ih ⊢
    rw [List.foldl_cons]
    show _ = (kyD b (f (fld (ltF f) (if ltF f y x = true then y else x) ys))).py
    rw [← ih, ky_lt (ok y) (ok x)]
    show List.foldl _ (if ltF f y x = true then _ else _) _ = _
    by_cases h : ltF f y x = true
    · rw [if_pos h, if_pos h]
    · rw [if_neg h, if_neg h]
theorem kys_alike (b : Bool) (f : Q4 → KT3) (xs : List Q4) : PySem.W.AlikeAll (pys (xs.map fun z => kyD b (f z))) := by
  cases b with
  | false =>
    have e : pys (xs.map fun z => kyD false (f z)) = (xs.map fun z => (f z).1).map PySem.W.Datum.toD := by
      induction xs with
      | nil => rfl
      | cons x xs ih => rw [List.map_cons, pys, ih]; rfl
    rw [e]
    exact PySem.W.alikeAll_datum _
  | true =>
    have e : pys (xs.map fun z => kyD true (f z)) = (xs.map fun z => PySem.W.Tup.mk [(f z).1, (f z).2.1, (f z).2.2]).map PySem.W.Datum.toD := by
      induction xs with
      | nil => rfl
      | cons x xs ih => rw [List.map_cons, pys, ih]; rfl
    rw [e]
    exact PySem.W.alikeAll_datum _
theorem fm_q4 {α : Type} {r : D → Option D} {e : α → D} {s : α → D} (h : ∀ z, r (e z) = some (s z)) : ∀ zs : List α, (zs.map e).filterMap r = zs.map s
  | [] => rfl
  | z :: zs => by rw [List.map_cons, List.filterMap_cons, h z, fm_q4 h zs]; rfl
def q4v : D → Option D
  | .tup [_, _, _, .int v] => some (.int v)
  | _ => none
theorem fm_v (zs : List Q4) : (zs.map q4D).filterMap q4v = zs.map fun y => .int y.2.2.2 := fm_q4 (r := q4v) (e := q4D) (s := fun y => .int y.2.2.2) (fun z => rfl) zs
theorem cut1 {x : D} {xs : List D} : cut (x :: xs) (some 1) none = xs := by rw [cut_from (by decide)]; rfl
theorem cut13 {a b c : D} {r : List D} : cut (a :: b :: c :: r) (some 1) (some 3) = [b, c] := by
  show List.take (HT.sIx _ _ (some ((3 : Nat) : Int)) - HT.sIx _ 0 (some ((1 : Nat) : Int))) (List.drop (HT.sIx _ 0 (some ((1 : Nat) : Int))) _) = _
  rw [HT.sIx_nat, HT.sIx_nat, List.length_cons, List.length_cons, List.length_cons, Nat.min_eq_left (by omega), Nat.min_eq_left (by omega)]
  rfl
theorem eqD_bl {a b : Bool} : eqD (.bl a) (.bl b) = (a == b) := by cases a <;> cases b <;> rfl
theorem okEq_bl {a b : Bool} : okEq (.bl a) (.bl b) := ⟨rfl, rfl, by simp [D.dep]⟩
theorem okEq_str {a b : Str} : okEq (.str a) (.str b) := ⟨rfl, rfl, by simp [D.dep]⟩
theorem sne : (("=" : Str) ≠ "<" ∧ (">" : Str) ≠ "<") ∧ (("<" : Str) ≠ "=" ∧ (">" : Str) ≠ "=") ∧ ("<" : Str) ≠ ">" ∧ ("=" : Str) ≠ ">" := by decide
theorem cs_l (a b : Int) : (cs a b = "<") = (a < b) := by
  unfold cs
  split
  · exact propext ⟨fun _ => by omega, fun _ => rfl⟩
  · split
    · exact propext ⟨fun z => absurd z sne.1.1, fun _ => by omega⟩
    · exact propext ⟨fun z => absurd z sne.1.2, fun _ => by omega⟩
theorem cs_e (a b : Int) : (cs a b = "=") = (a = b) := by
  unfold cs
  split
  · exact propext ⟨fun z => absurd z sne.2.1.1, fun _ => by omega⟩
  · split
    · exact propext ⟨fun _ => by omega, fun _ => rfl⟩
    · exact propext ⟨fun z => absurd z sne.2.1.2, fun _ => by omega⟩
theorem cs_g (a b : Int) : (cs a b = ">") = (b < a) := by
  unfold cs
  split
  · exact propext ⟨fun z => absurd z sne.2.2.1, fun _ => by omega⟩
  · split
    · exact propext ⟨fun z => absurd z sne.2.2.2, fun _ => by omega⟩
    · exact propext ⟨fun _ => by omega, fun _ => rfl⟩
def wide (y o : Q4) : Bool := decide (y.2.1 ≤ o.2.1) && decide (o.2.2.1 ≤ y.2.2.1)
def narrow (y o : Q4) : Bool := decide (o.2.1 ≤ y.2.1) && decide (y.2.2.1 ≤ o.2.2.1)
theorem tri (a b : Int) : (a < b ∧ a ≤ b ∧ ¬ b ≤ a ∧ ¬ a = b ∧ ¬ b < a) ∨ (a = b) ∨ (b < a ∧ b ≤ a ∧ ¬ a ≤ b ∧ ¬ a = b ∧ ¬ a < b) := by omega
theorem tk_cov (y o : Q4) : tkQ "takes_cover" y o = ((wide y o != narrow y o) && wide y o) := by
  unfold tkQ wide narrow
  rw [tk_cover]
  simp only [ne_eq, cs_l, cs_e, cs_g]
  rcases tri y.2.1 o.2.1 with h | h | h <;> rcases tri y.2.2.1 o.2.2.1 with g | g | g <;> simp [h, g]
theorem tk_inn (y o : Q4) : tkQ "takes_inner" y o = ((wide y o != narrow y o) && narrow y o) := by
  unfold tkQ wide narrow
  rw [tk_inner]
  simp only [ne_eq, cs_l, cs_e, cs_g]
  rcases tri y.2.1 o.2.1 with h | h | h <;> rcases tri y.2.2.1 o.2.2.1 with g | g | g <;> simp [h, g]
theorem tk_bits (x : Str) (y o : Q4) : tkQ x y o = takeB x (cs y.2.1 o.2.1) (cs y.2.2.1 o.2.2.1) (cs y.2.2.2 o.2.2.2) := rfl
theorem fld_never : ∀ (xs : List Q4) (x : Q4), fld (tkQ "takes_never") x xs = x
  | [], x => rfl
  | y :: ys, x => fld_never ys x
theorem fld_always : ∀ (xs : List Q4) (x : Q4), (x :: xs).getLast? = some (fld (tkQ "takes_always") x xs)
  | [], x => rfl
  | y :: ys, x => by rw [List.getLast?_cons_cons]; exact fld_always ys y
def keyF (z : Str) (q : Q4) : KT3 := if z = "begins" then (q.2.1, 0, 0) else if z = "ends" then (-q.2.2.1, 0, 0) else if z = "least" then (q.2.2.2, 0, 0) else (q.2.1, -q.2.2.1, q.2.2.2)
theorem tk_b : tkQ "takes_begins" = ltF (keyF "begins") := by
  funext y o
  unfold tkQ ltF lt3
  rw [tk_begins]
  simp only [cs_l]
  show decide (y.2.1 < o.2.1) = decide (y.2.1 < o.2.1 ∨ (y.2.1 = o.2.1 ∧ ((0 : Int) < 0 ∨ ((0 : Int) = 0 ∧ (0 : Int) < 0))))
  simp
theorem tk_e : tkQ "takes_ends" = ltF (keyF "ends") := by
  funext y o
  unfold tkQ ltF lt3
  rw [tk_ends]
  simp only [cs_g]
  show decide (o.2.2.1 < y.2.2.1) = decide (-y.2.2.1 < -o.2.2.1 ∨ (-y.2.2.1 = -o.2.2.1 ∧ ((0 : Int) < 0 ∨ ((0 : Int) = 0 ∧ (0 : Int) < 0))))
  exact decide_eq_decide.mpr ⟨fun h => by omega, fun h => by omega⟩
theorem tk_l : tkQ "takes_least" = ltF (keyF "least") := by
  funext y o
  unfold tkQ ltF lt3
  rw [tk_least]
  simp only [cs_l]
  show decide (y.2.2.2 < o.2.2.2) = decide (y.2.2.2 < o.2.2.2 ∨ (y.2.2.2 = o.2.2.2 ∧ ((0 : Int) < 0 ∨ ((0 : Int) = 0 ∧ (0 : Int) < 0))))
  simp
theorem tk_r : tkQ "takes_ranked" = ltF (keyF "ranked") := by
  funext y o
  unfold tkQ ltF lt3
  rw [tk_ranked]
  simp only [cs_l, cs_e, cs_g]
  show _ = decide (y.2.1 < o.2.1 ∨ (y.2.1 = o.2.1 ∧ (-y.2.2.1 < -o.2.2.1 ∨ (-y.2.2.1 = -o.2.2.1 ∧ y.2.2.2 < o.2.2.2))))
  by_cases h1 : y.2.1 = o.2.1
  · by_cases h2 : y.2.2.1 = o.2.2.1
    · have e : (decide (y.2.1 = o.2.1) && decide (y.2.2.1 = o.2.2.1)) = true := by simp [h1, h2]
      rw [if_pos e]
      exact decide_eq_decide.mpr ⟨fun h => by omega, fun h => by omega⟩
    · have e : ¬ (decide (y.2.1 = o.2.1) && decide (y.2.2.1 = o.2.2.1)) = true := by simp [h2]
      rw [if_neg e, ← Bool.decide_and, ← Bool.decide_or]
      exact decide_eq_decide.mpr ⟨fun h => by omega, fun h => by omega⟩
  · have e : ¬ (decide (y.2.1 = o.2.1) && decide (y.2.2.1 = o.2.2.1)) = true := by simp [h1]
    rw [if_neg e, ← Bool.decide_and, ← Bool.decide_or]
    exact decide_eq_decide.mpr ⟨fun h => by omega, fun h => by omega⟩
theorem mean_keys {z : Str} (h : z = "begins" ∨ z = "ends" ∨ z = "least" ∨ z = "ranked") (x : Q4) (xs : List Q4) : mean z x xs = fld (ltF (keyF z)) x xs := by
  rcases h with rfl | rfl | rfl | rfl
  · rw [← tk_b]; rfl
  · rw [← tk_e]; rfl
  · rw [← tk_l]; rfl
  · rw [← tk_r]; rfl
theorem key_ok {z : Str} (h : z = "begins" ∨ z = "ends" ∨ z = "least" ∨ z = "ranked") (q : Q4) : OkK (decide (z = "ranked")) (keyF z q) := by
  rcases h with rfl | rfl | rfl | rfl <;> intro h <;> first | rfl | (exact absurd h (by decide))
def qKey (z : Str) : D → Option D
  | .tup [.int a, .int b, .int c, .int d] => some (kyD (decide (z = "ranked")) (keyF z (a, b, c, d)))
  | _ => none
theorem fm_key (z : Str) (zs : List Q4) : (zs.map q4D).filterMap (qKey z) = zs.map fun y => kyD (decide (z = "ranked")) (keyF z y) := fm_q4 (r := qKey z) (e := q4D) (s := fun y => kyD (decide (z = "ranked")) (keyF z y)) (fun y => rfl) zs
theorem strIs_is {z y : Str} : strIs (.str z) y = decide (z = y) := by
  show (y == z) = _
  by_cases h : z = y
  · simp [h]
  · simp [h, Ne.symm h]
/-! the law's own steps -/
section
variable {ps : List (Int × List D × Bool)} {q : Int}
theorem pair_ok {tb : List (List (Bool × Int))} (wt : WfT tb) {n : Nat} (r : RowS n ps) (hn : n ≤ 5000) : okRepr (.lst [onD (ownr tb ps q), rdD tb ps q]) := by
  have ro := r.ok hn
  have hw : ∀ o, ownr tb ps q = some o → Ov ps q o := fun o => ownr_Ov wt ro
  have hr : (rdD tb ps q).sm = true ∧ (rdD tb ps q).dep = 0 ∧ (rdD tb ps q).wt = 64 := by
    unfold rdD
    cases e : ownr tb ps q with
    | none => exact ⟨rfl, rfl, rfl⟩
    | some o =>
      obtain ⟨p, v, h1, _⟩ := hw o e
      simp only
      rw [List.getD_eq_getElem?_getD, h1]
      exact vAt_sm (r.sm p (List.mem_of_getElem? h1)) q
  have ho : (onD (ownr tb ps q)).sm = true ∧ (onD (ownr tb ps q)).dep = 0 ∧ (onD (ownr tb ps q)).wt = 64 := by
    cases e : ownr tb ps q with
    | none => exact ⟨rfl, rfl, rfl⟩
    | some o =>
      have := (hw o e).lt
      have := ro.len
      exact ⟨decide_eq_true (by omega), rfl, rfl⟩
  refine okRepr_of ?_ ?_ ?_
  · simp [D.sm, sms, ho.1, hr.1]
  · simp [D.dep, deps, ho.2.1, hr.2.1]
  · simp [D.wt, wts, ho.2.2, hr.2.2]
theorem mem_ovs : ∀ {rs : List (Int × List D × Bool)} {i j : Nat} {p : Int × List D × Bool} {v : Int}, rs[j]? = some p → vAt p q = .int v → i + j ∈ ovs q i rs
  | [], i, j, p, v, h, _ => by simp at h
  | r :: rs, i, 0, p, v, h, e => by
    have : r = p := by simpa using h
    subst this
    unfold ovs
    rw [e, if_neg (fun z : isN (D.int v) = true => by cases z)]
    exact List.mem_cons_self
  | r :: rs, i, j + 1, p, v, h, e => by
    have := mem_ovs (rs := rs) (i := i + 1) (j := j) (by simpa using h) e
    rw [show i + 1 + j = i + (j + 1) by omega] at this
    unfold ovs
    split
    · exact this
    · exact List.mem_cons_of_mem _ this
def qNum (j : Nat) : D → Option D
  | .tup [.int a, _, _, .int v] => if a = (j : Int) then some (.int v) else none
  | _ => none
theorem due_at {j : Nat} : ∀ {ks : List Nat}, j ∈ ks → ∃ ys, ((ks.map (qd ps q)).map q4D).filterMap (qNum j) = .int (qd ps q j).2.2.2 :: ys
  | k :: ks, h => by
    rw [List.map_cons, List.map_cons, List.filterMap_cons]
    have e : qNum j (q4D (qd ps q k)) = if (k : Int) = (j : Int) then some (.int (qd ps q k).2.2.2) else none := rfl
    rw [e]
    by_cases hk : k = j
    · subst hk
      rw [if_pos rfl]
      exact ⟨_, rfl⟩
    · rw [if_neg (by omega)]
      exact due_at (by rcases List.mem_cons.mp h with z | z; exact absurd z.symm hk; exact z)
theorem rd_own {tb : List (List (Bool × Int))} (wt : WfT tb) (ro : RowOk ps) {j : Nat} (h : ownr tb ps q = some j) : rdD tb ps q = .int (qd ps q j).2.2.2 ∧ j ∈ ovs q 0 ps := by
  obtain ⟨p, v, h1, h2⟩ := ownr_Ov wt ro h
  have g : ps.getD j (0, [], false) = p := by rw [List.getD_eq_getElem?_getD, h1]; rfl
  have hm := mem_ovs (i := 0) h1 h2
  rw [Nat.zero_add] at hm
  refine ⟨?_, hm⟩
  unfold rdD qd
  rw [h]
  simp only [g]
  unfold vI
  rw [h2]
end
theorem q4s_pl : ∀ zs : List Q4, pls (zs.map q4D) = true
  | [] => rfl
  | z :: zs => by rw [List.map_cons, pls, q4s_pl zs]; rfl
end L3
/-! L3O: {k: v for .. in ..} with int keys; d[e]; t.index(e); xs.pop(e) -/
namespace L3
open PySem PySem.Spec PyProof.Rows L2
section
variable {K : PySem.W.Frag} {F F' H H' : Hp} {R R' : Nat → List Addr} {p : Addr} {ob : HO} {r : List Addr}
theorem Stp.held (s : Stp F H R F' H' R' r) (e : H p = some ob) (nF : F p = none) (nR : ∀ i, p ∉ R i) : H' p = some ob ∧ F' p = none ∧ ∀ i, p ∉ R' i := by
  refine ⟨s.keep p _ e nR, ?_, fun i h => ?_⟩
  · cases e' : F' p with
    | none => rfl
    | some ob' =>
      rcases s.fn p (by rw [e']; simp) with z | z | ⟨j, z⟩
      · exact absurd nF z
      · rw [e] at z; cases z
      · exact (nR j z).elim
  · rcases s.rn i p h with z | ⟨j, z⟩
    · rw [e] at z; cases z
    · exact nR j z
theorem RpKv.snoc : ∀ {vs : List (Key × V)} {ds : List (Key × D)} {k : Key} {v : V} {d : D}, RpKv K F vs ds → Rp K F v d → RpKv K F (vs ++ [(k, v)]) (ds ++ [(k, d)])
  | _, _, _, _, _, .nil, q => .cons q .nil
  | _, _, _, _, _, .cons r t, q => .cons r (RpKv.snoc t q)
theorem RpKv.none_any : ∀ {vs : List (Key × V)} {ds : List (Key × D)} {k : Key}, RpKv K F vs ds → (∀ p ∈ ds, p.1 ≠ k) → (vs.any fun kv => decide (kv.1 = k)) = false
  | _, _, _, .nil, _ => rfl
  | _, _, k, .cons (k := k') r t, h => by
    rw [List.any_cons, RpKv.none_any t fun p hp => h p (List.mem_cons_of_mem _ hp), Bool.or_false]
    exact decide_eq_false (h _ List.mem_cons_self)
theorem RpKv.len : ∀ {vs : List (Key × V)} {ds : List (Key × D)}, RpKv K F vs ds → vs.length = ds.length
  | _, _, .nil => rfl
  | _, _, .cons r t => by rw [List.length_cons, List.length_cons, RpKv.len t]
theorem OkF.frz {pa : List V} {σ : Sg} {Γ : List S} (o : OkF K pa F H σ Γ R) (e : H p = some ob) (nF : F p = none) (nR : ∀ i, p ∉ R i) : OkF K pa (upd F p ob) H σ Γ R := by
  have sb : Sub F (upd F p ob) := fun a y q => (upd_ne fun e => by rw [e, nF] at q; cases q).trans q
  refine ⟨fun a y q => ?_, o.len, fun i s h => ?_, o.dj, fun i a h => ?_, o.hs, let ⟨o1, φ, e⟩ := o.sys; ⟨o1, φ, sb _ _ e⟩⟩
  · by_cases ea : a = p
    · subst ea; rw [upd_same] at q; rw [e]; exact q
    · rw [upd_ne ea] at q; exact o.sub a y q
  · have q := o.sl i s h
    cases s with
    | un => exact q
    | v d => exact ⟨q.1, let ⟨v, e, p⟩ := q.2; ⟨v, e, Rp.mono sb _ _ p⟩⟩
    | o j t => exact let ⟨v, e, p, z⟩ := q; ⟨v, e, p.mono sb _ _ _ (fun _ _ => rfl), z⟩
  · rw [upd_ne (fun e : a = p => nR i (e ▸ h))]; exact o.fr i a h
theorem Stp.frz (s : Stp F H R F' H' R' r) (n : p ∈ r) (nF : F' p = none) : Stp F H R (upd F' p ob) H' R' [] := by
  refine ⟨fun a y q => ?_, s.keep, s.rn, fun _ h => (nomatch h), fun a h => ?_⟩
  · rw [upd_ne (fun e => by have := s.sub _ _ q; rw [e, nF] at this; cases this)]; exact s.sub a y q
  · by_cases e : a = p
    · subst e; exact .inr (s.r1 _ n)
    · rw [upd_ne e] at h; exact s.fn a h
def lookD (kvs : List (Key × D)) (k : Key) : Option D := (kvs.find? fun kv => decide (kv.1 = k)).map (·.2)
theorem RpKv.val : ∀ {vs : List (Key × V)} {ds : List (Key × D)} {k : Key} {d : D}, RpKv K F vs ds → lookD ds k = some d → ∃ v, valV vs k = some v ∧ Rp K F v d
  | _, _, _, _, .nil, h => by simp [lookD] at h
  | _, _, k, d, .cons (k := k') (v := v) (vs := vs) (d := d') (ds := ds) r t, h => by
    by_cases e : k' = k
    · have : d' = d := by simpa [lookD, List.find?_cons, e] using h
      subst this
      exact ⟨v, valV_pos e, r⟩
    · have : lookD ds k = some d := by simpa [lookD, List.find?_cons, e] using h
      obtain ⟨v', h1, h2⟩ := RpKv.val t this
      exact ⟨v', (valV_neg e).trans h1, h2⟩
end
def dcGo (g : SG) (c : ST) (fk fv : SA) (vs : List Nat) : List D → List (Key × D) → List S → (List (Key × D) → List S → Prop) → Prop
  | [], acc, Γ, κ => κ acc Γ
  | d :: ds, acc, Γ, κ => g d Γ fun Γ1 => c Γ1 (fun b Γ2 => if b = true then fk Γ2 (fun a Γ3 => fv Γ3 (fun e Γ4 => ∃ i x, a = .val (.int i) ∧ e = .val x ∧ (∀ p ∈ acc, p.1 ≠ .inl i) ∧ dcGo g c fk fv vs ds (acc ++ [(.inl i, x)]) (clr vs Γ4) κ) noX) noX else dcGo g c fk fv vs ds acc (clr vs Γ2) κ) noX
@[simp] def sDcomp (h : SI) (g : SG) (c : ST) (fk fv : SA) (vs : List Nat) : SE := fun Γ κ Ex => h Γ (fun ds Γ1 => ds.length < sizeLine ∧ dcGo g c fk fv vs ds [] (clr vs Γ1) fun kvs Γ2 => κ (.leaf (.dic kvs)) (rst vs Γ1 Γ2)) Ex
section
variable {X : Cx} {pa : List V} {pos p p1 p2 p4 p6 : Pos} {tg iter kx vx a b : Expr} {ifs : List Expr} {scope : Scope} {own : List (Str × Nat)} {fk fv ga gb : SA} {h : SI} {g : SG} {c : ST} {x : Str} {i : Nat}
theorem tDc_of {W : WX} {vs : List Nat} {σ : Sg} {H : Hp} {Q : VK} (hh : tE X.K pa W (sDcomp h g c fk fv vs) σ H Q) : tDc (tI X.K pa W h) (tG X.K pa vs g) (tT X.K pa noW c) (tA X.K pa noW fk) (tA X.K pa noW fv) vs σ H Q := by
  obtain ⟨F, Γ, R, Ex, Kc, o, xl, q, kk⟩ := hh
  refine ⟨F, Γ, R, Ex, _, o, xl, q, fun ds Γ1 ⟨hsz, h1⟩ J F1 H1 R1 o1 s1 it => fun Dd hD => ?_⟩
  let St : Nat → Hp → Prop := fun i H => ∃ F Γ R kvs acc, OkF X.K pa F H (wipe σ vs) Γ R ∧ Stp F1 H1 R1 F H R [Dd] ∧ H Dd = some (.dK kvs) ∧ RpKv X.K F kvs acc ∧ F Dd = none ∧ (∀ i, Dd ∉ R i) ∧ acc.length ≤ i ∧ dcGo g c fk fv vs (ds.drop i) acc Γ (fun kvs Γ2 => Kc (.leaf (.dic kvs)) (rst vs Γ1 Γ2))
  refine ⟨fun i m H => m = ds.length - i ∧ i ≤ ds.length ∧ St i H, ⟨ds.length, ?_⟩, ?_⟩
  · have oc := clr_ok (vs := vs) o1
    obtain ⟨o2, s2⟩ := oc.newH (x := .dK []) hD
    exact ⟨by simp, Nat.zero_le _, F1, _, _, [], [], o2, (Stp.refl.le offR_le).trans s2, upd_same, .nil, o1.sub.none hD, fun i h => oc.hs i _ h hD, Nat.le_refl _, by simpa using h1⟩
  · rintro i m H2 ⟨rfl, hi, F2, Γ2, R2, kvs, acc, o2, s2, eD, rk, nF, nR, hacc, h2⟩
    obtain ⟨go, stop⟩ := it i F2 H2 (wipe σ vs) Γ2 R2 pa o2 s2.sub
    by_cases hlt : i < ds.length
    · rw [drop_get hlt] at h2
      obtain ⟨go, yld⟩ := go _ (List.getElem?_eq_getElem hlt)
      refine .inr ⟨go, St (i + 1), fun H' hN => ⟨ds.length - (i + 1), by omega, rfl, hlt, hN⟩, fun x H3 y => ?_⟩
      obtain ⟨F3, o3, s3, rp⟩ := yld x H3 y
      refine ⟨F3, Γ2, R2, _, _, o3, rp, h2, fun Γ4 h4 σ4 R4 o4 l4 w4 => ?_⟩
      rw [wipe_idem] at w4
      have s34 : Stp F2 H2 R2 F3 H3 R4 [] := s3.le l4
      obtain ⟨e4, nF4, nR4⟩ := s34.held eD nF nR
      refine ⟨w4, F3, Γ4, R4, noX, _, o4, fun _ _ _ _ _ _ _ h => h.elim, h4, fun b Γ5 h5 F5 H5 R5 o5 s5 => ?_⟩
      obtain ⟨e5, nF5, nR5⟩ := s5.held e4 nF4 nR4
      have sb5 : Sub F2 F5 := s34.sub.trans s5.sub
      have t5 := (s2.trans s34).trans s5
      cases b with
      | true =>
        rw [if_pos rfl] at h5 ⊢
        refine ⟨F5, Γ5, R5, noX, _, o5, fun _ _ _ _ _ _ _ h => h.elim, h5, fun aa Γ6 h6 v6 F6 H6 R6 o6 s6 a6 => ?_⟩
        obtain ⟨e6, nF6, nR6⟩ := s6.held e5 nF5 nR5
        refine ⟨F6, Γ6, R6, noX, _, o6, fun _ _ _ _ _ _ _ h => h.elim, h6, fun ab Γ7 h7 v7 F7 H7 R7 o7 s7 a7 => ?_⟩
        obtain ⟨e7, nF7, nR7⟩ := s7.held e6 nF6 nR6
        obtain ⟨n, d, rfl, rfl, fresh, h8⟩ := h7
        have a6' : Rp X.K F6 v6 (.int n) := a6
        cases a6'
        have a7' : Rp X.K F7 v7 d := a7
        have rk7 : RpKv X.K F7 kvs acc := RpKv.mono ((sb5.trans s6.sub).trans s7.sub) acc kvs rk
        have hput : putK kvs (.inl n) v7 = kvs ++ [(.inl n, v7)] := by
          unfold putK
          rw [rk7.none_any fresh]
          rfl
        have hlen := rk7.len
        have o8 := (clr_ok (vs := vs) o7).updX (a := Dd) (x := .dK (kvs ++ [(.inl n, v7)])) nF7 (fun i z => nR7 i (offR_le i _ z))
        refine ⟨kvs, .inl n, rfl, e7, by omega, ?_⟩
        rw [hput]
        refine ⟨F7, clr vs Γ7, offR vs R7, kvs ++ [(.inl n, v7)], acc ++ [(.inl n, d)], ?_, ?_, upd_same, rk7.snoc a7', nF7, fun i z => nR7 i (offR_le i _ z), by simp; omega, h8⟩
        · have := o8
          rw [show wipe σ4 vs = wipe σ vs from w4] at this
          exact this
        · exact (((t5.trans s6).trans s7).le offR_le).updX hD
      | false =>
        rw [if_neg Bool.false_ne_true] at h5 ⊢
        refine ⟨F5, clr vs Γ5, offR vs R5, kvs, acc, ?_, ?_, e5, RpKv.mono sb5 acc kvs rk, nF5, fun i z => nR5 i (offR_le i _ z), by omega, h5⟩
        · have := clr_ok (vs := vs) o5
          rw [show wipe σ4 vs = wipe σ vs from w4] at this
          exact this
        · exact (t5.le offR_le).withR fun a ha => by
            have e : a = Dd := by simpa using ha
            rw [e]; exact .inl hD
    · rw [List.drop_eq_nil_of_le (by omega)] at h2
      have or := (rst_ok o1 s2.sub o2).frz eD nF (fun i z => nR i (offR_le i _ z))
      have sr := (((s1.trans s2).le offR_le : Stp F H R F2 H2 (offR vs R2) [Dd])).frz (ob := .dK kvs) (p := Dd) (by simp) nF
      refine .inl ⟨stop (by omega), kk _ _ (by simpa [dcGo] using h2) _ _ H2 _ [] or sr (.leaf (.dic (Rd.of upd_same) (RpKv.mono (fun a y q => ?_) acc kvs rk)))⟩
      exact (upd_ne fun e => by rw [e, nF] at q; cases q).trans q
/-- {k: v for tg in iter if ..}, keys ints that are all different -/
theorem ej_dcomp (hc : X.calm = true) (hN : X.N.Nodup) (ok : BlkOk X.N X.env.scope scope own) (hi : IJ X pa tg iter h)
    (hg : ∀ (s : Shared) (H : Hp) (C : Addr) (cl : List (Str × Addr)) (fp : List Addr), GJ (X.blk s H scope (compEnvC scope cl C X.env) fp) pa (own.map (·.2)) tg g)
    (ht : ∀ (s : Shared) (H : Hp) (C : Addr) (cl : List (Str × Addr)) (fp : List Addr), CJ (X.blk s H scope (compEnvC scope cl C X.env) fp) pa ifs c)
    (hk : ∀ (s : Shared) (H : Hp) (C : Addr) (cl : List (Str × Addr)) (fp : List Addr), AJ (X.blk s H scope (compEnvC scope cl C X.env) fp) pa kx fk)
    (he : ∀ (s : Shared) (H : Hp) (C : Addr) (cl : List (Str × Addr)) (fp : List Addr), AJ (X.blk s H scope (compEnvC scope cl C X.env) fp) pa vx fv)
    (hs : ∀ x, foldedSetIterable iter X.env x = pure x := by intro _; rfl) : EJ X pa (.DictComp kx vx [⟨tg, iter, ifs, 0⟩] scope pos) (sDcomp h g c fk fv (own.map (·.2))) := ⟨fun W tk =>
  PE.imp (pe_dc hc hN (hi.run W tk) ok (fun s H C cl fp => (hg s H C cl fp).run) (fun s H C cl fp => (ht s H C cl fp).run) (fun s H C cl fp => (hk s H C cl fp).run noW takesNo) (fun s H C cl fp => (he s H C cl fp).run noW takesNo) hs) fun σ H Q h => tDc_of h⟩
/-! d[e], d a value -/
@[simp] def sDgetV (ga gb : SA) : SE := fun Γ κ Ex => ga Γ (fun a Γ1 => gb Γ1 (fun b Γ2 => rdK Γ2 a fun da => rdK Γ2 b fun db => ∃ kvs i d, da = .dic kvs ∧ db = .int i ∧ lookD kvs (.inl i) = some d ∧ κ (.leaf d) Γ2) Ex) Ex
theorem ej_dgetV (hu : X.A.units + 1 < cLine) (ha : AJ X pa a ga) (hb : AJ X pa b gb) (hs : NoSl b) : EJ X pa (.Subscript a b pos) (sDgetV ga gb) := ⟨fun W tk =>
  PE.imp (pe_dget hu (ha.run W tk) (hb.run W tk) hs) fun σ H Q ⟨F, Γ, R, Ex, Kc, o, xl, q, k⟩ => ⟨F, Γ, R, Ex, _, o, xl, q, fun aa Γ1 h1 v F1 H1 R1 o1 s1 a1 => ⟨F1, Γ1, R1, Ex, _, o1, xl.step s1, h1, fun ab Γ2 h2 w F2 H2 R2 o2 s2 a2 => by
    obtain ⟨da, b1, h3⟩ := rdK_ok o2 (a1.mono s2.sub) h2
    obtain ⟨db, b2, kvs, i, d, rfl, rfl, hl, h4⟩ := rdK_ok o2 a2 h3
    obtain ⟨p, vs, rfl, q1, r1⟩ := b1.dic
    have e2 := b2.int
    subst e2
    obtain ⟨v', e3, r3⟩ := r1.val hl
    exact ⟨p, v', rfl, .inl ⟨vs, .inl i, o2.sub.rd q1, rfl, e3.symm⟩, k _ _ h4 _ F2 _ R2 [] o2 (s1.trans s2) (.leaf r3)⟩⟩⟩⟩
/-! a tuple made of a list, whose object has no dict of its own; its method index -/
def rTupN (K : PySem.W.Frag) : List V → Hp → VK → Prop := fun xs H Q => ∃ p ys, xs = [.ref p] ∧ SqL K H p ys ∧ ∀ (l : Addr) (ob : Obj), H l = none → ob.dict = none → Q (.ref l) (upd H l (.frz ob (.tup ys)))
theorem call_tupleN : CallR X (.type "tuple") (rTupN X.K) := by
  intro pins s σ H xs us Q I r h
  obtain ⟨p, ys, rfl, hq, q⟩ := h
  obtain ⟨u, rfl, rx⟩ := vals1 r
  cases rx
  obtain ⟨its, r', pl, hz⟩ := I.list hq
  have hlen := r'.length
  refine call_tuple_list pl.isList (fun h' kp => ?_) (by simp only [List.size_toArray] <;> omega)
  have I1 : Inv X pins σ H { s with heap := h' } := I.kept (t' := s.toks) kp
  have I2 : Inv X pins σ (upd H h'.objs.size (.frz { cls := .type "tuple", data := .seq its.toArray } (.tup ys))) { s with heap := h'.push { cls := .type "tuple", data := .seq its.toArray } } :=
    I1.laid (t' := s.toks) (fun b o e => Heap.get?_push_of_some _ e) (Nat.le_refl _) (show ObjOk X.prog X.w _ _ _ (.frz _ (.tup ys)) from ⟨Heap.get?_push_size _ rfl, hz, its, r', IsTup.new _ _⟩)
  exact ⟨.ref h'.objs.size, _, I2, rfl, q _ _ (I1.hok.fresh (Nat.le_refl _)) rfl⟩
def kTupN : KN := fun ds P => match ds with
  | [.lst xs] => P (.leaf (.tun xs))
  | _ => False
theorem k_tupleN : OpN X pa (rTupN X.K) kTupN := by
  intro F H σ Γ R xs ds P Q o bs h fin
  unfold kTupN at h
  split at h
  · cases bs with
    | cons b1 bs =>
      cases bs
      obtain ⟨a, vs, rfl, q1, r1⟩ := b1.sqL o.sub
      refine ⟨a, vs, rfl, q1, fun l ob hl hd => ?_⟩
      obtain ⟨o2, s2, sb⟩ := o.newF (x := .frz ob (.tup vs)) hl
      exact fin _ _ ⟨_, _, R, [], o2, s2, .leaf (.tun upd_same hd (RpAll.mono sb _ _ r1)), h⟩
  · exact h.elim
@[simp] theorem kTupN_s {xs : List D} {P : O → Prop} : kTupN [.lst xs] P = P (.leaf (.tun xs)) := rfl
def tBN (r : V → List V → Hp → VK → Prop) (to : TE) (t : TA) : TE := fun σ H Q => to σ H fun x H1 => (∃ a ob vs, x = .ref a ∧ H1 a = some (.frz ob (.tup vs)) ∧ ob.dict = none) ∧ t σ H1 fun us H2 => r x us H2 Q
theorem pe_bmN {r : V → List V → Hp → VK → Prop} {to : TE} {t : TA} {name : Str} {id : String} {o e : Expr} {es : List Expr} {apos cpos : Pos} (pa : PlainAttrs "tuple") (slot : Slot "tuple" name id) (hty : typeOf (.builtin id) = pure (.type "method_descriptor")) (hm : MtR X id r) (ho : PE X o to) (ha : PA X (e :: es) t)
    (hbase : attributeBase o name X.env (eval o X.env) = eval o X.env := by rfl)
    (hfew : ((backTo cpos (starEach (e :: es) X.env)).all (fun x => !x.1) && (backToKw cpos (keywordEach [] X.env)).all (fun x => x.1.isSome)
      && decide ((e :: es).length + ([] : List Keyword).length + (if ([] : List Keyword).isEmpty then 0 else 1) < 30)) = true := by rfl)
    (hline : (apos.endLine == cpos.line) = true := by rfl) (hs : starEach (e :: es) X.env = (false, eval e X.env) :: starEach es X.env := by rfl) (hplain : (backTo cpos (starEach es X.env)).any (·.1) = false := by rfl) :
    PE X (.Call (.Attribute o name apos) (e :: es) [] cpos) (tBN r to t) := by
  refine ⟨fun pins s σ H Q I h => ?_⟩
  refine wpAny_Call_method_late hbase hfew hline rfl (thn (ho.run pins s σ H _ I h) fun v s1 ⟨x, H1, I1, r1, ty, q1⟩ => ?_)
  obtain ⟨a, ob, vs, ex, ha1, hd⟩ := ty
  subst ex
  obtain rfl : v = Value.ref a := r1
  obtain ⟨g1, g2⟩ := I1.hok a _ ha1
  obtain ⟨_, its, rv, ⟨o', e', c', _⟩⟩ := g2
  have eo : o' = ob := by rw [g1] at e'; cases e'; rfl
  subst eo
  refine ⟨"tuple", id, pa, slot, hty, ⟨o', g1, c'⟩, fun b eb => ?_, ?_⟩
  · cases eb
    exact ⟨o', g1, hd⟩
  have hA := ha.run cpos pins s1 σ H1 _ I1 q1
  rw [hs] at hA ⊢
  refine Calls.callWith_builtin (by show (false || (backTo cpos (starEach es X.env)).any (·.1)) = false; rw [hplain] <;> rfl) (Calls.evalArgs_plain ?_)
  exact thn hA fun us s2 ⟨vs, H2, I2, r2, q2⟩ => hm pins s2 σ H2 (V.ref a) vs (Value.ref a) us Q I2 rfl r2 q2
def rIndexT (K : PySem.W.Frag) : V → List V → Hp → VK → Prop := fun x xs H Q => ∃ (a : Addr) (y : V) (d : PyData) (ds : List PyData) (j : Nat) (z : PyData), x = V.ref a ∧ xs = [y] ∧ Dp K H (V.ref a) (.tuple ds) ∧ Dp K H y d ∧
  SeqAt.shaped (.tuple ds) = true ∧ SeqAt.shaped d = true ∧ ds[j]? = some z ∧ PyData.eqv z d = true ∧ (∀ (m : Nat) (z' : PyData), m < j → ds[m]? = some z' → PyData.eqv z' d = false) ∧ Q (.int (j : Nat)) H
theorem mt_indexT (hu : X.A.units + 65 < cLine) : MtR X "tuple.index" (rIndexT X.K) := by
  intro pins s σ H x xs v us Q I rx rxs h
  obtain ⟨a, y, d, ds, j, z, rfl, rfl, hl, hy, sl, sd, hz, hzj, hno, q⟩ := h
  cases rx
  cases rxs with
  | cons ry rt =>
    rename_i uy ut
    cases rt
    obtain ⟨bs, r1⟩ := Dp.reads I d y uy hy ry
    have hxs : PyData.canLayAll0 ds = true := SeqAt.canLay_of_shaped sl
    have hroom : X.A.units + 1 + min (PyData.depthAll ds) d.depth < cLine := room_in_shaped sd hu
    cases hl with
    | tup hs ha =>
      obtain ⟨its, rv, ⟨⟨cls, dd, data, sls⟩, ho, hc, n, hdt⟩, hlen⟩ := I.tuple hs
      simp only at hc hdt
      subst hc hdt
      obtain ⟨as, h4⟩ := Dp.readsAll I ds _ its ha rv
      have hn : its.length = ds.length := SeqAt.ReadsAll.length ds its as h4
      have hmap : its.map (SeqAt.readOf s.heap) = ds := SeqAt.readsAll_map ds its as hxs h4
      obtain ⟨hjd, _⟩ := List.getElem?_eq_some_iff.mp hz
      have hjl : j < its.length := by omega
      have hj : j < its.toArray.size := by simpa using hjl
      have at_ : ∀ (m : Nat) (hm : m < its.toArray.size) (z' : PyData), ds[m]? = some z' → SeqAt.readOf s.heap its.toArray[m] = z' := by
        intro m hm z' hz'
        have hml : m < its.length := by simpa using hm
        rw [← hmap, List.getElem?_map, List.getElem?_eq_getElem hml] at hz'
        have e1 : SeqAt.readOf s.heap its[m] = z' := Option.some.inj (show some (SeqAt.readOf s.heap its[m]) = some z' from hz')
        simpa using e1
      refine call_meets PySem.F.slot_tuple_index ⟨_, ho, rfl⟩ PySem.F.entry_tuple_index (PySem.F.args_tuple_index_2 _ _)
        (TI.tuple_indexAt a its.toArray n dd sls uy (fun u => PyData.eqv (SeqAt.readOf s.heap u) d) j hj ?_ ?_) ⟨ho, SeqAt.items_eqAt (vs := its.toArray) (show ReadsAll s.heap its.toArray.toList ds as from h4) r1 hxs (SeqAt.canLay_of_shaped sd) hroom, ?_⟩
      · show PyData.eqv (SeqAt.readOf s.heap its.toArray[j]) d = true
        rw [at_ j hj z hz]
        exact hzj
      · intro m hm hmj
        have hmd : m < ds.length := by omega
        have hz' : ds[m]? = some ds[m] := List.getElem?_eq_getElem hmd
        show PyData.eqv (SeqAt.readOf s.heap its.toArray[m]) d = false
        rw [at_ m hm _ hz']
        exact hno m _ hmj hz'
      · exact ⟨.int (j : Nat), H, I.tok _, ⟨_, rfl⟩, q⟩
def kIndexT : K2 := fun dl dv P => match dl with
  | .tun xs => pns xs = true ∧ dv.pn = true ∧ deps xs ≤ 60 ∧ dv.dep ≤ 60 ∧ ∃ (j : Nat) (z : D), xs[j]? = some z ∧ eqD z dv = true ∧ (∀ (m : Nat) (z' : D), m < j → xs[m]? = some z' → eqD z' dv = false) ∧ P (.leaf (.int (j : Nat)))
  | _ => False
@[simp] def sIndexT (i : Nat) (ga : SA) : SE := fun Γ κ Ex => (∃ xs, rdK Γ (.slot i) (· = .tun xs)) ∧ ga Γ (fun a Γ1 => rdK Γ1 (.slot i) fun dl => rdK Γ1 a fun dv => kIndexT dl dv fun t => κ t Γ1) Ex
theorem ej_indexT {a : Expr} (hu : X.A.units + 65 < cLine) (hp : PE X (.Name x p1) (tVar i)) {ga : SA} (ha : AJ X pa a ga)
    (hline : (p4.endLine == p6.line) = true := by rfl)
    (hbase : attributeBase (.Name x p1) "index" X.env (eval (.Name x p1) X.env) = eval (.Name x p1) X.env := by rfl)
    (hfew : ((backTo p6 (starEach [a] X.env)).all (fun x => !x.1) && (backToKw p6 (keywordEach [] X.env)).all (fun x => x.1.isSome)
      && decide (([a] : List Expr).length + ([] : List Keyword).length + (if ([] : List Keyword).isEmpty then 0 else 1) < 30)) = true := by rfl)
    (hse : starEach [a] X.env = (false, eval a X.env) :: starEach [] X.env := by rfl) :
    EJ X pa (.Call (.Attribute (.Name x p1) "index" p4) [a] [] p6) (sIndexT i ga) := ⟨fun W tk =>
  PE.imp (pe_bmN PySem.F.plainAttrs_tuple PySem.F.slot_tuple_index PySem.F.type_tuple_index (mt_indexT hu) hp (pa_cons (ha.run W tk) pa_nil hse) hbase hfew hline hse) fun σ H Q ⟨F, Γ, R, Ex, Kc, o, xl, ⟨⟨xs0, q0⟩, q⟩, k⟩ => by
    obtain ⟨v, ev⟩ := slot_at o q0
    obtain ⟨d0, b0, rfl⟩ := rdK_ok o (a := .slot i) ev q0
    obtain ⟨l, ob, vs0, rfl, hl0, hd0, _⟩ := b0.sqN
    refine ⟨_, ev, ⟨l, ob, vs0, rfl, o.sub _ _ hl0, hd0⟩, F, Γ, R, Ex, _, o, xl, q, fun ar Γ1 h1 v F1 H1 R1 o1 s1 a1 => ?_⟩
    obtain ⟨dl, bl, h2⟩ := rdK_ok o1 (a := .slot i) ev h1
    obtain ⟨dv, bv, h3⟩ := rdK_ok o1 a1 h2
    unfold kIndexT at h3
    split at h3
    · rename_i xs
      obtain ⟨hp1, hp2, hd1, hd2, j, z, e1, e2, e3, h3⟩ := h3
      refine ⟨l, v, dv.py, pys xs, j, z.py, rfl, rfl, ?_, bv.dp o1.sub (D.pn_pl _ hp2), ?_, py_shaped hp2 (by omega), pys_at e1, e2, fun m z' hm hz => ?_, ?_⟩
      · have := bl.dp o1.sub (D.pn_pl (.tun xs) (by rw [D.pn]; exact hp1))
        rw [D.py] at this
        exact this
      · have := py_shaped (d := .tun xs) (by rw [D.pn]; exact hp1) (by rw [D.dep]; omega)
        rw [D.py] at this
        exact this
      · obtain ⟨d', hd', rfl⟩ := pys_get hz
        exact e3 m d' hm hd'
      · exact k _ _ h3 _ F1 H1 R1 [] o1 s1 (.leaf (.int _))
    · exact h3.elim⟩
/-! xs.pop(e), its value -/
theorem RpAll.erase {K : PySem.W.Frag} {F : Hp} : ∀ {vs : List V} {ds : List D} (n : Nat), RpAll K F vs ds → RpAll K F (vs.eraseIdx n) (ds.eraseIdx n)
  | _, _, _, .nil => .nil
  | _, _, 0, .cons r q => q
  | _, _, n + 1, .cons r q => .cons r (RpAll.erase n q)
@[simp] def sPopE (i : Nat) (ga : SA) : SE := fun Γ κ Ex => (∃ s ds, Γ[i]? = some (.o s (.ls ds))) ∧ ga Γ (fun a Γ1 => ∃ (n : Nat) (j : Option Nat) (ds : List D) (d : D), a = .val (.int n) ∧ Γ1[i]? = some (.o j (.ls ds)) ∧ ds[n]? = some d ∧ n < 2 ^ 62 ∧ κ (.leaf d) (Γ1.set i (.o j (.ls (ds.eraseIdx n))))) Ex
theorem ej_popE {a : Expr} (hp : PE X (.Name x p1) (tVar i)) {ga : SA} (ha : AJ X pa a ga)
    (hline : (p4.endLine == p6.line) = true := by rfl)
    (hbase : attributeBase (.Name x p1) "pop" X.env (eval (.Name x p1) X.env) = eval (.Name x p1) X.env := by rfl)
    (hfew : ((backTo p6 (starEach [a] X.env)).all (fun x => !x.1) && (backToKw p6 (keywordEach [] X.env)).all (fun x => x.1.isSome)
      && decide (([a] : List Expr).length + ([] : List Keyword).length + (if ([] : List Keyword).isEmpty then 0 else 1) < 30)) = true := by rfl)
    (hse : starEach [a] X.env = (false, eval a X.env) :: starEach [] X.env := by rfl) :
    EJ X pa (.Call (.Attribute (.Name x p1) "pop" p4) [a] [] p6) (sPopE i ga) := ⟨fun W tk =>
  PE.imp (pe_bm PySem.F.plainAttrs_list PySem.F.slot_list_pop PySem.F.type_list_pop mt_popAt hp (pa_cons (ha.run W tk) pa_nil hse) hbase hfew hline hse) fun σ H Q ⟨F, Γ, R, Ex, Kc, o, xl, ⟨⟨s0, ds0, e0⟩, q⟩, k⟩ => by
    obtain ⟨l, vs, ev, hl, rp, hR⟩ := o.ls e0
    refine ⟨_, ev, .inl ⟨rfl, _, SqL.of hl⟩, F, Γ, R, Ex, _, o, xl, q, fun ar Γ1 h1 v F1 H1 R1 o1 s1 a1 => ?_⟩
    obtain ⟨n, j, ds, d, rfl, e1, e2, hn, h2⟩ := h1
    have a1' : Rp X.K F1 v (.int n) := a1
    cases a1'
    obtain ⟨l', vs', ev', hl', rp', hR'⟩ := o1.ls e1
    rw [ev] at ev'
    cases ev'
    obtain ⟨y, hy, ry⟩ := rp'.get e2
    have hlt : n < vs'.length := (List.getElem?_eq_some_iff.mp hy).1
    refine ⟨l, vs', n, n, y, rfl, rfl, hl', by omega, by omega, ?_, hy, ?_⟩
    · unfold seqIndex?
      simp
      omega
    obtain ⟨o3, s3⟩ := o1.updI (x := .lst (vs'.eraseIdx n)) (p := l) (t' := .ls (ds.eraseIdx n)) e1 ev (by rw [hR']; simp) (by
      rw [hR']
      exact .ls upd_same (rp'.erase n))
    exact k _ _ h2 _ _ _ _ [] o3 (s1.trans s3) (.leaf ry)⟩
/-! x, y = a, b, each of which is owned then -/
@[simp] def zParO (i j : Nat) (f g : SE) : SS := fun k Γ Ex => f Γ (fun t1 Γ1 => g Γ1 (fun t2 Γ2 => k.nx ((Γ2.set i (.o none t1)).set j (.o none t2))) Ex) Ex
theorem sj_parO {f g : SE} {px py pt pt2 : Pos} {a b : Expr} {x y : Str} {kt k2 : Nat} {i j : Nat} (hc : X.calm = true) (hN : X.N.Nodup) (hi : X.N[i]? = some x) (hj : X.N[j]? = some y) (hij : i ≠ j) (hx : X.env.scope.names.lookup x = some .local) (hy : X.env.scope.names.lookup y = some .local) (hf : EJ X pa a f) (hg : EJ X pa b g)
    (hw : swappedStores [.Tuple [.Name x px, .Name y py] kt pt] (.Tuple [a, b] k2 pt2) X.env = pure (some [x, y])) (hse : starEach [a, b] X.env = (false, eval a X.env) :: starEach [b] X.env := by rfl) (hse2 : starEach [b] X.env = (false, eval b X.env) :: starEach [] X.env := by rfl) (hs : swapsWithSole [.Tuple [.Name x px, .Name y py] kt pt] (.Tuple [a, b] k2 pt2) pos.line X.env = pure false := by rfl) :
    SJ X pa (.Assign [.Tuple [.Name x px, .Name y py] kt pt] (.Tuple [a, b] k2 pt2) pos) (zParO i j f g) := ⟨fun W tk =>
  PS.imp (ps_par hc hN hi hj hij hx hy (pa_cons (hf.run W tk) (pa_cons (hg.run W tk) pa_nil hse2) hse) hw hs) fun D σ H ⟨F, Γ, R, Ex, k, o, xl, q, n, _⟩ =>
  ⟨F, Γ, R, Ex, _, o, xl σ, q, fun t1 Γ1 h1 v1 F1 H1 R1 r1 o1 s1 x1 => ⟨F1, Γ1, R1, Ex, _, o1, (xl σ).step s1, h1, fun t2 Γ2 h2 v2 F2 H2 R2 r2 o2 s2 x2 => by
    refine ⟨v1, v2, rfl, ?_⟩
    have x1' := x1.keep s2
    have o3 := o2.setO (i := i) x1'
    have dis : ∀ a, a ∈ r2 → a ∉ r1 := fun a h2 h1 => by
      obtain ⟨xs, e⟩ := x1.own.there _ _ _ a h1
      rcases s2.r1 a h2 with z | ⟨l, z⟩
      · rw [e] at z; cases z
      · exact x1.dj l a h1 z
    have x2' : Res X.K F2 H2 (fun l => if l = i then r1 else R2 l) v2 t2 r2 := ⟨x2.own, fun l a h hl => by
      split at hl
      · exact dis a h hl
      · exact x2.dj l a h hl, x2.fr⟩
    have o4 := o3.setO (i := j) x2'
    have s12 := s1.trans s2
    have sA : Stp F H R F2 H2 (fun l => if l = i then r1 else R2 l) [] := (s12.withR (r' := r1) s1.r1).setO
    have sB : Stp F H R F2 H2 (fun l => if l = j then r2 else (fun l => if l = i then r1 else R2 l) l) [] := (sA.withR (r' := r2) s12.r1).setO
    exact n _ h2 _ F2 H2 _ o4 sB⟩⟩⟩
/-! list(range(a, b)) -/
@[simp] def sLstRg2 (ga gb : SA) : SE := fun Γ κ Ex => ga Γ (fun a Γ1 => gb Γ1 (fun b Γ2 => rdK Γ2 a fun da => rdK Γ2 b fun db => ∃ i n : Int, da = .int i ∧ db = .int n ∧ RgOk i n ∧ κ (.ls ((List.range (n - i).toNat).map fun j : Nat => .int (i + j))) Γ2) Ex) Ex
theorem rp_rg2 {K : PySem.W.Frag} {F : Hp} {i n : Int} : RpAll K F (rgV i n) ((List.range (n - i).toNat).map fun j : Nat => L3.D.int (i + j)) := by
  unfold rgV
  generalize (n - i).toNat = m
  have : ∀ l : List Nat, RpAll K F (l.map fun j : Nat => V.int (i + (j : Int))) (l.map fun j : Nat => L3.D.int (i + j)) := fun l => by
    induction l with
    | nil => exact .nil
    | cons x l ih => exact .cons (.int _) ih
  exact this _
theorem ej_listRg2 {a b : Expr} {p1 p2 p3 pos : Pos} (hc : X.calm = true) (hg : Gl X "list") (hm : X.mg "list" = none) (hg2 : Gl X "range") (hm2 : X.mg "range" = none) (ha : AJ X pa a ga) (hb : AJ X pa b gb)
    (na : starEach [a, b] X.env = (false, eval a X.env) :: starEach [b] X.env := by rfl) (nb : starEach [b] X.env = (false, eval b X.env) :: starEach [] X.env := by rfl) (hp : (backTo p3 (starEach [b] X.env)).any (·.1) = false := by rfl)
    (nl : starEach [.Call (.Name "range" p2) [a, b] [] p3] X.env = (false, eval (.Call (.Name "range" p2) [a, b] [] p3) X.env) :: starEach [] X.env := by rfl) :
    EJ X pa (.Call (.Name "list" p1) [.Call (.Name "range" p2) [a, b] [] p3] [] pos) (sLstRg2 ga gb) := ⟨fun W tk =>
  PE.imp (pe_listRg hc hg hm (prg_2 hg2 hm2 (ha.run W tk) (hb.run W tk) na nb hp) nl) fun σ H Q ⟨F, Γ, R, Ex, Kc, o, xl, q, k⟩ =>
    ⟨F, Γ, R, Ex, _, o, xl, q, fun y Γ1 h1 v F1 H1 R1 o1 s1 a1 => ⟨F1, Γ1, R1, Ex, _, o1, xl.step s1, h1, fun z Γ2 h2 w F2 H2 R2 o2 s2 a2 => by
      obtain ⟨da, b1, h3⟩ := rdK_ok o2 (a1.mono s2.sub) h2
      obtain ⟨db, b2, i, n, rfl, rfl, hr, h4⟩ := rdK_ok o2 a2 h3
      refine ⟨i, n, b1.int, b2.int, hr, fun q hq => ?_⟩
      obtain ⟨t, F', R', r', o', s', x', p⟩ := fin_ls (P := fun t => Kc t Γ2) o2 hq rp_rg2 h4
      exact k _ _ p _ F' _ R' r' o' ((s1.trans s2).trans s') x'⟩⟩⟩
/-! a, b = e, e a list -/
@[simp] def gTpL (n : Nat) (gs : SGs) : SG := fun d Γ κ => match d with | .lst ds => ds.length = n ∧ gs ds Γ κ | _ => False
theorem gj_lst {es : List Expr} {gs : SGs} {n m : Nat} {ws : List Nat} (hc : X.calm = true) (h : GsJ X pa ws es gs) (hn : (assignEach es X.env).length = n := by rfl) (hst : (assignEach es X.env).findIdx? (·.1) = none := by rfl) : GJ X pa ws (.Tuple es m pos) (gTpL n gs) := ⟨PG.imp (pg_unl hc h.run hn hst) fun v σ H Q ⟨F, Γ, R, d, κ, o, q, h1, k⟩ => by
  cases q with
  | lst q1 q2 => exact ⟨_, _, rfl, SqL.of (o.sub _ _ q1), by rw [q2.length]; exact h1.1, F, Γ, R, _, κ, o, q2, h1.2, k⟩
  | _ => exact h1.elim⟩
end
end L3
/-! L3PM: orders of states; tables renumbered -/
namespace L3
open PySem PySem.Spec PyProof.Rows L2
/-- all numbers below n, each once -/
structure Pm (n : Nat) (od : List Nat) : Prop where
  pm : od.Perm (List.range n)
theorem Pm.len {n : Nat} {od : List Nat} (p : Pm n od) : od.length = n := by rw [p.pm.length_eq, List.length_range]
theorem Pm.nd {n : Nat} {od : List Nat} (p : Pm n od) : od.Nodup := p.pm.nodup_iff.mpr List.nodup_range
theorem Pm.lt {n : Nat} {od : List Nat} (p : Pm n od) : ∀ k ∈ od, k < n := fun k hk => List.mem_range.mp (p.pm.mem_iff.mp hk)
def ofN (od : List Nat) : List D := od.map fun k : Nat => D.int k
/-- the place of a state -/
def plc (od : List Nat) (s : Nat) : Nat := od.idxOf s
theorem Pm.all {n : Nat} {od : List Nat} (p : Pm n od) {s : Nat} (h : s < n) : s ∈ od := p.pm.mem_iff.mpr (List.mem_range.mpr h)
theorem plc_lt {n : Nat} {od : List Nat} (p : Pm n od) {s : Nat} (h : s < n) : plc od s < n := by
  have := List.idxOf_lt_length_of_mem (p.all h)
  rw [p.len] at this
  exact this
theorem plc_at {n : Nat} {od : List Nat} (p : Pm n od) {s : Nat} (h : s < n) : od[plc od s]? = some s := by
  have hl := List.idxOf_lt_length_of_mem (p.all h)
  unfold plc
  rw [List.getElem?_eq_getElem hl]
  simp
theorem plc_ne {od : List Nat} {s m z : Nat} (h : m < plc od s) (hz : od[m]? = some z) : z ≠ s := by
  intro e
  subst e
  have hm := (List.getElem?_eq_some_iff.mp hz).1
  have := List.not_of_lt_findIdx (p := (· == z)) h
  simp at this
  rw [List.getElem?_eq_getElem hm] at hz
  exact this (Option.some.inj hz)
theorem plc_of {n : Nat} {od : List Nat} (p : Pm n od) {k s : Nat} (h : od[k]? = some s) : plc od s = k := by
  have hk := (List.getElem?_eq_some_iff.mp h).1
  have hs : s < n := p.lt s (List.mem_of_getElem? h)
  have h2 := plc_at p hs
  have hl : plc od s < od.length := by rw [p.len]; exact plc_lt p hs
  rw [List.getElem?_eq_getElem hl] at h2
  rw [List.getElem?_eq_getElem hk] at h
  exact (List.getElem_inj p.nd).mp ((Option.some.inj h2).trans (Option.some.inj h).symm)
def renE (od : List Nat) (e : Bool × Int) : Bool × Int := (e.1, ((plc od e.2.toNat : Nat) : Int))
def renB (tb : List (List (Bool × Int))) (od : List Nat) : List (List (Bool × Int)) := od.map fun s => (tb.getD s []).map (renE od)
def c_renumbered : SE := fun Γ κ _ => ∃ (tb : List (List (Bool × Int))) (od : List Nat) (o : D), Γ = [.v (tbD tb), .v o] ∧ (o = .tun (ofN od) ∨ o = .tup (ofN od)) ∧ WfT tb ∧ tb.length ≤ 6 ∧ Pm tb.length od ∧ κ (.leaf (tbD (renB tb od))) Γ
theorem dcGo_map {g : SG} {fk fv : SA} {vs : List Nat} {Γ0 : List S} (kf : D → Int) (vf : D → D) : ∀ {ds : List D} {acc : List (Key × D)} {κ : List (Key × D) → List S → Prop},
    (∀ d ∈ ds, ∀ (acc : List (Key × D)) (N : List (Key × D) → List S → Prop), (∀ p ∈ acc, p.1 ≠ (.inl (kf d) : Key)) → N (acc ++ [(.inl (kf d), vf d)]) Γ0 →
      g d Γ0 fun Γ1 => cYes Γ1 (fun b Γ2 => if b = true then fk Γ2 (fun a Γ3 => fv Γ3 (fun e Γ4 => ∃ i x, a = .val (.int i) ∧ e = .val x ∧ (∀ p ∈ acc, p.1 ≠ .inl i) ∧ N (acc ++ [(.inl i, x)]) (clr vs Γ4)) noX) noX else N acc (clr vs Γ2)) noX) →
    (ds.map kf).Nodup → (∀ p ∈ acc, ∀ d ∈ ds, p.1 ≠ (.inl (kf d) : Key)) → κ (acc ++ ds.map fun d => (.inl (kf d), vf d)) Γ0 → dcGo g cYes fk fv vs ds acc Γ0 κ
  | [], acc, κ, _, _, _, h => by
    rw [List.map_nil, List.append_nil] at h
    exact h
  | d :: ds, acc, κ, hs, hn, hf, h => by
    rw [List.map_cons, List.nodup_cons] at hn
    refine hs d List.mem_cons_self acc (fun acc' Γ => dcGo g cYes fk fv vs ds acc' Γ κ) (fun p hp => hf p hp d List.mem_cons_self) ?_
    refine dcGo_map kf vf (fun e he => hs e (List.mem_cons_of_mem _ he)) hn.2 (fun p hp e he => ?_) ?_
    · rcases List.mem_append.mp hp with hp | hp
      · exact hf p hp e (List.mem_cons_of_mem _ he)
      · have ep : p = (.inl (kf d), vf d) := by simpa using hp
        subst ep
        intro z
        have z : kf d = kf e := Sum.inl.inj z
        exact hn.1 (z ▸ List.mem_map_of_mem he)
    · simpa using h
theorem enum_cons (k : Nat) (d : D) (ds : List D) : enum (k : Int) (d :: ds) = .tup [.int k, d] :: enum ((k + 1 : Nat) : Int) ds := by
  unfold enum
  rw [List.length_cons, List.range_succ_eq_map, List.map_cons, List.map_map]
  simp
  intro i _
  omega
def kfE : D → Int
  | .tup [_, .int s] => s
  | _ => 0
def vfE : D → D
  | .tup [i, _] => i
  | _ => .non
theorem enum_kf : ∀ (od : List Nat) (k : Nat), (enum (k : Int) (ofN od)).map kfE = od.map fun s : Nat => (s : Int)
  | [], k => rfl
  | s :: od, k => by
    show (enum (k : Int) (.int (s : Int) :: ofN od)).map kfE = _
    rw [enum_cons, List.map_cons, List.map_cons, enum_kf od (k + 1)]
    rfl
def kvE (k : Nat) (od : List Nat) : List (Key × D) := (enum (k : Int) (ofN od)).map fun d => (.inl (kfE d), vfE d)
theorem look_plc : ∀ (od : List Nat) (k : Nat) {s : Nat}, s ∈ od → lookD (kvE k od) (.inl (s : Int)) = some (.int ((k + plc od s : Nat) : Int))
  | [], k, s, h => by cases h
  | a :: od, k, s, h => by
    have e : kvE k (a :: od) = (.inl (a : Int), .int (k : Int)) :: kvE (k + 1) od := by
      unfold kvE
      show (enum (k : Int) (.int (a : Int) :: ofN od)).map _ = _
      rw [enum_cons, List.map_cons]
      rfl
    rw [e]
    by_cases ha : a = s
    · subst ha
      have : plc (a :: od) a = 0 := by simp [plc, List.idxOf_cons]
      rw [this]
      simp [lookD]
    · have hm : s ∈ od := by rcases List.mem_cons.mp h with z | z; exact absurd z.symm ha; exact z
      have hb : (a == s) = false := by simp [ha]
      have : plc (a :: od) s = plc od s + 1 := by simp [plc, List.idxOf_cons, hb]
      rw [this]
      have ih := look_plc od (k + 1) hm
      have hne : ¬ ((.inl (a : Int) : Key) = .inl (s : Int)) := fun z => ha (by have := Sum.inl.inj z; omega)
      have : lookD ((.inl (a : Int), .int (k : Int)) :: kvE (k + 1) od) (.inl (s : Int)) = lookD (kvE (k + 1) od) (.inl (s : Int)) := by simp [lookD, List.find?_cons, hne]
      rw [this, ih]
      congr 2
      omega
def qRen (tb : List (List (Bool × Int))) (od : List Nat) : D → Option D
  | .int s => some (.tup (((tb.getD s.toNat []).map (renE od)).map fun e => entD e.1 e.2))
  | _ => none
def qEnt (od : List Nat) : D → Option D
  | .tup [w, .int n] => some (.tup [w, .int (plc od n.toNat : Nat)])
  | _ => none
theorem fm_ren (tb : List (List (Bool × Int))) (od : List Nat) : D.tup ((ofN od).filterMap (qRen tb od)) = tbD (renB tb od) := by
  unfold tbD renB ofN
  rw [fm_q4 (r := qRen tb od) (e := fun k : Nat => D.int k) (s := fun s : Nat => .tup (((tb.getD s []).map (renE od)).map fun e => entD e.1 e.2)) (fun s => rfl), List.map_map]
  rfl
theorem fm_ent (od : List Nat) (st : List (Bool × Int)) : (st.map fun e => entD e.1 e.2).filterMap (qEnt od) = (st.map (renE od)).map fun e => entD e.1 e.2 := by
  rw [fm_q4 (r := qEnt od) (e := fun e : Bool × Int => entD e.1 e.2) (s := fun e => entD (renE od e).1 (renE od e).2) (fun e => rfl), List.map_map]
  rfl
theorem ofN_erase : ∀ (l : List Nat) (r : Nat), (ofN l).eraseIdx r = ofN (l.eraseIdx r)
  | [], r => by simp [ofN]
  | a :: l, 0 => rfl
  | a :: l, r + 1 => by
    show L3.D.int a :: (ofN l).eraseIdx r = L3.D.int a :: ofN (l.eraseIdx r)
    rw [ofN_erase l r]
theorem perm_erase : ∀ (l : List Nat) (r : Nat) (x : Nat), l[r]? = some x → (x :: l.eraseIdx r).Perm l
  | [], r, x, h => by simp at h
  | a :: l, 0, x, h => by
    have : a = x := by simpa using h
    subst this
    exact .refl _
  | a :: l, r + 1, x, h => by
    have ih := perm_erase l r x (by simpa using h)
    show (x :: a :: l.eraseIdx r).Perm (a :: l)
    exact (List.Perm.swap a x _).trans (ih.cons a)
theorem ofN_pls : ∀ l : List Nat, pls (ofN l) = true
  | [] => rfl
  | a :: l => by show pls (L3.D.int a :: ofN l) = true; rw [pls, ofN_pls l]; rfl
abbrev Row3 := List (Int × List D × Bool)
theorem nxH_take {tb : List (List (Bool × Int))} {ps : Row3} {q : Int} {m k : Nat} {h : Option (Nat × Nat)} (hk : k < m) (hh : ∀ o s, h = some (o, s) → o < m) : nxH tb (ps.take m) q h k = nxH tb ps q h k ∧ (nxH tb ps q h k).1 < m := by
  have g : ∀ j, j < m → (ps.take m).getD j (0, [], false) = ps.getD j (0, [], false) := fun j hj => by
    rw [List.getD_eq_getElem?_getD, List.getD_eq_getElem?_getD, List.getElem?_take, if_pos hj]
  cases h with
  | none => exact ⟨rfl, hk⟩
  | some os =>
    obtain ⟨o, s⟩ := os
    have ho := hh o s rfl
    unfold nxH
    dsimp only
    rw [g o ho, g k hk]
    refine ⟨rfl, ?_⟩
    split
    · exact hk
    · exact ho
theorem stp_take {tb : List (List (Bool × Int))} {ps : Row3} {q : Int} {m : Nat} : ∀ {ks : List Nat} {h : Option (Nat × Nat)}, (∀ k ∈ ks, k < m) → (∀ o s, h = some (o, s) → o < m) → stp tb (ps.take m) q h ks = stp tb ps q h ks
  | [], _, _, _ => rfl
  | k :: ks, h, hk, hh => by
    obtain ⟨e1, e2⟩ := nxH_take (tb := tb) (ps := ps) (q := q) (hk k List.mem_cons_self) hh
    rw [stp, stp, e1, stp_take (fun j hj => hk j (List.mem_cons_of_mem _ hj)) (fun o s e => by have e := Option.some.inj e; rw [e] at e2; exact e2)]
theorem ofN_pns : ∀ l : List Nat, pns (ofN l) = true ∧ deps (ofN l) = 0
  | [] => ⟨rfl, rfl⟩
  | a :: l => by
    obtain ⟨h1, h2⟩ := ofN_pns l
    show pns (L3.D.int a :: ofN l) = true ∧ deps (L3.D.int a :: ofN l) = 0
    rw [pns, deps, h1, h2]
    exact ⟨rfl, rfl⟩
theorem kIndexT_plc {n : Nat} {od : List Nat} (pm : Pm n od) {s : Nat} (hs : s < n) {P : O → Prop} (h : P (.leaf (.int (plc od s : Nat)))) : kIndexT (.tun (ofN od)) (.int s) P := by
  have z := ofN_pns od
  refine ⟨z.1, rfl, by omega, by simp [D.dep], plc od s, .int s, ?_, by rw [eqD_int]; simp, fun m z' hm hz => ?_, h⟩
  · unfold ofN
    rw [List.getElem?_map, plc_at pm hs]
    rfl
  · unfold ofN at hz
    rw [List.getElem?_map] at hz
    obtain ⟨w, hw, rfl⟩ := Option.map_eq_some_iff.mp hz
    rw [eqD_int]
    exact decide_eq_false fun e => plc_ne hm hw (by omega)
def stpP (od : List Nat) (x : Nat × Nat × Nat) : D := stepD (x.1, x.2.1, plc od x.2.2)
def c__law_steps : SE := fun Γ κ _ => ∃ (tb : List (List (Bool × Int))) (ps : Row3) (q : Int) (od : List Nat), Γ = [.v (tbD tb), .v (.tup (ps.map pcD)), .v (.int q), .v (.tun (ofN od))] ∧ WfT tb ∧ RowOk ps ∧ Pm tb.length od ∧ tb.length ≤ 6 ∧ κ (.leaf (.tup ((stp tb ps q none (ovs q 0 ps)).map (stpP od)))) Γ
end L3
/-! L3PN: what renumbered tables are -/
namespace L3
open PySem PySem.Spec PyProof.Rows L2
section
variable {tb : List (List (Bool × Int))} {od : List Nat} {ps : Row3} {q : Int}
theorem renB_len (pm : Pm tb.length od) : (renB tb od).length = tb.length := by unfold renB; rw [List.length_map, pm.len]
theorem renB_at (pm : Pm tb.length od) {s : Nat} (hs : s < tb.length) : (renB tb od).getD (plc od s) [] = (tb.getD s []).map (renE od) := by
  unfold renB
  rw [List.getD_eq_getElem?_getD, List.getElem?_map, plc_at pm hs]
  rfl
theorem row_in {s : Nat} (hs : s < tb.length) : tb.getD s [] ∈ tb := by
  rw [List.getD_eq_getElem?_getD, List.getElem?_eq_getElem hs]
  exact List.getElem_mem hs
theorem renB_wf (wt : WfT tb) (pm : Pm tb.length od) : WfT (renB tb od) := by
  refine ⟨by rw [renB_len pm]; exact wt.ne, fun st h => ?_, fun st h e he => ?_⟩
  · obtain ⟨s, hs, rfl⟩ := List.mem_map.mp h
    rw [List.length_map]
    exact wt.len _ (row_in (pm.lt s hs))
  · obtain ⟨s, hs, rfl⟩ := List.mem_map.mp h
    obtain ⟨e0, he0, rfl⟩ := List.mem_map.mp he
    have := wt.nx _ (row_in (pm.lt s hs)) e0 he0
    have h2 := plc_lt pm (s := e0.2.toNat) (by omega)
    rw [renB_len pm]
    show (0 : Int) ≤ (plc od e0.2.toNat : Nat) ∧ ((plc od e0.2.toNat : Nat) : Int) < tb.length
    omega
/-- the order that turns it back -/
def bkO (od : List Nat) (n : Nat) : List Nat := (List.range n).map (plc od)
theorem map_plc {n : Nat} (pm : Pm n od) : od.map (plc od) = List.range n := by
  refine List.ext_getElem (by rw [List.length_map, List.length_range, pm.len]) fun k h1 h2 => ?_
  rw [List.getElem_map, List.getElem_range]
  rw [List.length_map] at h1
  exact plc_of pm (List.getElem?_eq_getElem h1)
theorem bk_pm {n : Nat} (pm : Pm n od) : Pm n (bkO od n) := by
  refine ⟨?_⟩
  unfold bkO
  have h := pm.pm.symm.map (plc od)
  rw [map_plc pm] at h
  exact h
theorem bk_plc {n : Nat} (pm : Pm n od) {m : Nat} (hm : m < n) : plc (bkO od n) (plc od m) = m := by
  refine plc_of (bk_pm pm) ?_
  unfold bkO
  rw [List.getElem?_map, List.getElem?_range hm]
  rfl
theorem ren_back (wt : WfT tb) (pm : Pm tb.length od) : renB (renB tb od) (bkO od tb.length) = tb := by
  have e : renB (renB tb od) (bkO od tb.length) = (List.range tb.length).map fun s => tb.getD s [] := by
    show ((List.range tb.length).map (plc od)).map _ = _
    rw [List.map_map]
    refine List.map_congr_left fun s hs => ?_
    have hs := List.mem_range.mp hs
    show ((renB tb od).getD (plc od s) []).map (renE (bkO od tb.length)) = _
    rw [renB_at pm hs, List.map_map]
    have : ∀ e ∈ tb.getD s [], (renE (bkO od tb.length) ∘ renE od) e = id e := fun e he => by
      have := wt.nx _ (row_in hs) e he
      obtain ⟨w, x⟩ := e
      obtain ⟨y, rfl⟩ : ∃ y : Nat, x = y := ⟨x.toNat, by dsimp only at this; omega⟩
      show (w, ((plc (bkO od tb.length) (((plc od (y : Int).toNat : Nat) : Int)).toNat : Nat) : Int)) = (w, (y : Int))
      rw [Int.toNat_natCast, Int.toNat_natCast, bk_plc pm (by dsimp only at this; omega)]
    rw [List.map_congr_left this, List.map_id]
  rw [e]
  refine List.ext_getElem (by rw [List.length_map, List.length_range]) fun k h1 h2 => ?_
  rw [List.getElem_map, List.getElem_range, List.getD_eq_getElem?_getD, List.getElem?_eq_getElem h2]
  rfl
theorem entA_ren (wt : WfT tb) (pm : Pm tb.length od) {s : Nat} (hs : s < tb.length) (o n : Int × List D × Bool) : entA (renB tb od) (plc od s) o n q = renE od (entA tb s o n q) := by
  have en := entI_is o n q
  have l27 := wt.len _ (row_in hs)
  unfold entA
  rw [renB_at pm hs]
  have hk : (entI o n q).toNat < (tb.getD s []).length := by omega
  generalize tb.getD s [] = st at hk ⊢
  rw [List.getD_eq_getElem?_getD, List.getD_eq_getElem?_getD, List.getElem?_map, List.getElem?_eq_getElem hk]
  rfl
def mapS (od : List Nat) (x : Nat × Nat × Nat) : Nat × Nat × Nat := (x.1, x.2.1, plc od x.2.2)
theorem nx_ren (wt : WfT tb) (pm : Pm tb.length od) {o s k : Nat} (hs : s < tb.length) : nxH (renB tb od) ps q (some (o, plc od s)) k = ((nxH tb ps q (some (o, s)) k).1, plc od (nxH tb ps q (some (o, s)) k).2) := by
  unfold nxH
  dsimp only
  rw [entA_ren wt pm hs]
  rfl
theorem stp_ren (wt : WfT tb) (pm : Pm tb.length od) : ∀ {ks : List Nat} {o s : Nat}, s < tb.length → (∀ k ∈ ks, Ov ps q k) → Ov ps q o → stp (renB tb od) ps q (some (o, plc od s)) ks = (stp tb ps q (some (o, s)) ks).map (mapS od)
  | [], _, _, _, _, _ => rfl
  | k :: ks, o, s, hs, hk, ho => by
    have hd : HdOk tb ps q (some (o, s)) := fun o' s' e => by cases e; exact ⟨ho, hs⟩
    have n : Ov ps q (nxH tb ps q (some (o, s)) k).1 ∧ (nxH tb ps q (some (o, s)) k).2 < tb.length := (hd.nx wt (hk k List.mem_cons_self)) _ _ rfl
    rw [stp, stp, nx_ren wt pm hs, List.map_cons]
    generalize nxH tb ps q (some (o, s)) k = x at n ⊢
    obtain ⟨o', s'⟩ := x
    rw [stp_ren wt pm n.2 (fun j hj => hk j (List.mem_cons_of_mem _ hj)) n.1]
    rfl
theorem steps_ren (wt : WfT tb) (ro : RowOk ps) (pm : Pm tb.length od) (h0 : od[0]? = some 0) : (stp (renB tb od) ps q none (ovs q 0 ps)).map stepD = (stp tb ps q none (ovs q 0 ps)).map (stpP od) := by
  have p0 : plc od 0 = 0 := plc_of pm h0
  have kov : ∀ k ∈ ovs q 0 ps, Ov ps q k := fun k hk => ovs_Ov ro.pc hk
  have e : stp (renB tb od) ps q none (ovs q 0 ps) = (stp tb ps q none (ovs q 0 ps)).map (mapS od) := by
    cases hks : ovs q 0 ps with
    | nil => rfl
    | cons k ks =>
      rw [hks] at kov
      rw [stp, stp, List.map_cons]
      have e1 : nxH (renB tb od) ps q none k = (k, plc od 0) := by rw [p0]; rfl
      rw [e1, stp_ren wt pm wt.ne (fun j hj => kov j (List.mem_cons_of_mem _ hj)) (kov k List.mem_cons_self)]
      show (k, k, plc od 0) :: _ = _
      rfl
  rw [e, List.map_map]
  rfl
theorem steps_ok (wt : WfT tb) (lt : tb.length ≤ 6) (ro : RowOk ps) : okRepr (.tup ((stp tb ps q none (ovs q 0 ps)).map stepD)) := by
  have hok := stp_ok wt (fun k hk => ovs_Ov ro.pc hk) (fun _ _ (e : (none : Option (Nat × Nat)) = some _) => by cases e) (ks := ovs q 0 ps)
  have hk : ∀ x ∈ stp tb ps q none (ovs q 0 ps), x.1 < ps.length := fun x hx => (ovs_Ov ro.pc (stp_fst x hx)).lt
  have hl : (stp tb ps q none (ovs q 0 ps)).length ≤ 5000 := by rw [stp_len]; exact Nat.le_trans ovs_len ro.len
  have hrl := ro.len
  generalize stp tb ps q none (ovs q 0 ps) = xs at hok hk hl ⊢
  have sx : sms (xs.map stepD) = true := sms_of fun d hd => by
    obtain ⟨x, hx, rfl⟩ := List.mem_map.mp hd
    have h1 := hk x hx
    have h2 := (hok x hx).1.lt
    have h3 := (hok x hx).2
    simp [stepD, D.sm, sms]
    omega
  have dx : deps (xs.map stepD) ≤ 1 := deps_le fun d hd => by
    obtain ⟨x, hx, rfl⟩ := List.mem_map.mp hd
    simp [stepD, D.dep, deps]
  have wx := wts_le (k := 201) (xs := xs.map stepD) fun d hd => by
    obtain ⟨x, hx, rfl⟩ := List.mem_map.mp hd
    simp [stepD, D.wt, wts]
  rw [List.length_map] at wx
  refine okRepr_of ?_ ?_ ?_
  · simpa [D.sm] using sx
  · rw [D.dep]; omega
  · rw [D.wt]; omega
theorem ofN_vl : ∀ {l : List Nat}, (∀ k ∈ l, k < 6) → sms (ofN l) = true ∧ deps (ofN l) = 0 ∧ wts (ofN l) = 66 * l.length
  | [], _ => ⟨rfl, rfl, rfl⟩
  | a :: l, h => by
    obtain ⟨h1, h2, h3⟩ := ofN_vl (l := l) fun k hk => h k (List.mem_cons_of_mem _ hk)
    have ha := h a List.mem_cons_self
    show sms (L3.D.int a :: ofN l) = true ∧ deps (L3.D.int a :: ofN l) = 0 ∧ wts (L3.D.int a :: ofN l) = _
    rw [sms, deps, wts, h1, h2, h3, List.length_cons]
    refine ⟨?_, rfl, ?_⟩
    · simp [D.sm]
      omega
    · show 64 + 2 + _ = _
      omega
theorem three_ok (wt : WfT tb) (lt : tb.length ≤ 6) (pm : Pm tb.length od) {n : Nat} (r : RowS n ps) (hn : n ≤ 5000) : okRepr (.lst [tbD tb, .tun (ofN od), .tup (ps.map pcD)]) := by
  have h1 := tb_vl6 wt lt
  have h2 := row_vl r
  have h3 := ofN_vl (l := od) fun k hk => by have := pm.lt k hk; omega
  have h4 := pm.len
  generalize tbD tb = T at h1 ⊢
  generalize D.tup (ps.map pcD) = R at h2 ⊢
  have e1 : (D.tup (ofN od)).sm = true := by rw [D.sm]; exact h3.1
  have e2 : (D.tup (ofN od)).dep = 1 := by rw [D.dep, h3.2.1]
  have e3 : (D.tup (ofN od)).wt = 66 * od.length + 3 := by rw [D.wt, h3.2.2]
  have same : okRepr (.lst [T, .tup (ofN od), R]) → okRepr (.lst [T, .tun (ofN od), R]) := fun h => by
    simp only [okRepr, D.pd, pds, D.py, pys, D.dep, deps] at h ⊢
    exact h
  refine same ?_
  generalize D.tup (ofN od) = O1 at e1 e2 e3 ⊢
  refine okRepr_of ?_ ?_ ?_
  · simp [D.sm, sms, h1.1, h2.1, e1]
  · have a1 := h1.2.1
    have a2 := h2.2.1
    rw [D.dep, deps, deps, deps, deps, e2]
    omega
  · have a1 := h1.2.2
    have a2 := h2.2.2
    rw [D.wt, wts, wts, wts, wts, e3]
    omega
end
def qBk (od : List Nat) : D → Option D
  | .int s => some (.int (plc od s.toNat : Nat))
  | _ => none
theorem fm_bk (od : List Nat) (n : Nat) : ((List.range n).map fun i : Nat => L3.D.int (i : Int)).filterMap (qBk od) = ofN (bkO od n) := by
  rw [fm_q4 (r := qBk od) (e := fun i : Nat => L3.D.int (i : Int)) (s := fun i : Nat => .int (plc od i : Nat)) (fun i => rfl)]
  unfold ofN bkO
  rw [List.map_map]
  rfl
end L3
/-! L3Tx: texts: methods, slices, signs, f-strings, walks over texts and lists with numbers; a module's dict of texts -/
namespace L3
open PySem PySem.Spec PyProof.Rows L2
section
variable {X : Cx} {pa : List V} {pos apos p p1 tpos kp : Pos} {a b e o : Expr} {es elts : List Expr} {ga gb : SA} {gs : SAs} {kk : Nat} {tg : Expr}
/-! ### o.m(e), o.m() of a text -/
@[simp] def sM1 (ga gb : SA) (k : K2) : SE := fun Γ κ Ex => ga Γ (fun a Γ1 => (rdK Γ1 a fun da => ∃ z, da = .str z) ∧ gb Γ1 (fun b Γ2 => rdK Γ2 a fun da => rdK Γ2 b fun db => k da db fun t => κ t Γ2) Ex) Ex
theorem ej_m1 {id : String} {name : Str} {r : V → List V → Hp → VK → Prop} {k : K2} (slot : Slot "str" name id) (ty : typeOf (.builtin id) = pure (.type "method_descriptor")) (rule : MtR X id r)
    (hk : Op2 X pa (fun x y H Q => r x [y] H Q) k) (ha : AJ X pa o ga) (hb : AJ X pa e gb)
    (hs : starEach [e] X.env = [(false, eval e X.env)] := by rfl) (hbase : attributeBase o name X.env (eval o X.env) = eval o X.env := by rfl) (hline : (apos.endLine == pos.line) = true := by rfl) :
    EJ X pa (.Call (.Attribute o name apos) [e] [] pos) (sM1 ga gb k) := ⟨fun W tk =>
  PE.imp (pe_m1 slot ty rule (ha.run W tk) (hb.run W tk) hs hbase hline) fun σ H Q ⟨F, Γ, R, Ex, Kc, oo, xl, q, kk⟩ =>
    ⟨F, Γ, R, Ex, _, oo, xl, q, fun ar Γ1 h1 v F1 H1 R1 o1 s1 a1 => by
      obtain ⟨h0, h1⟩ := h1
      obtain ⟨d0, b0, z, rfl⟩ := rdK_ok o1 a1 h0
      refine ⟨⟨z, b0.str⟩, F1, Γ1, R1, Ex, _, o1, xl.step s1, h1, fun br Γ2 h2 w F2 H2 R2 o2 s2 a2 => ?_⟩
      obtain ⟨da, ba, h2⟩ := rdK_ok o2 (a1.mono s2.sub) h2
      obtain ⟨db, bb, h2⟩ := rdK_ok o2 a2 h2
      exact hk F2 H2 σ Γ2 R2 v w da db _ Q o2 ba bb h2 fun v' H' ⟨t, F', R', r', o', s', x', p⟩ => kk _ _ p v' F' H' R' r' o' ((s1.trans s2).trans s') x'⟩⟩
@[simp] def sM0 (ga : SA) (k : K1) : SE := fun Γ κ Ex => ga Γ (fun a Γ1 => rdK Γ1 a fun da => (∃ z, da = .str z) ∧ k da fun t => κ t Γ1) Ex
theorem ej_m0 {id : String} {name : Str} {r : V → List V → Hp → VK → Prop} {k : K1} (slot : Slot "str" name id) (ty : typeOf (.builtin id) = pure (.type "method_descriptor")) (rule : MtR X id r)
    (hk : Op1 X pa (fun x H Q => r x [] H Q) k) (ha : AJ X pa o ga)
    (hbase : attributeBase o name X.env (eval o X.env) = eval o X.env := by rfl) (hline : (apos.endLine == pos.line) = true := by rfl) :
    EJ X pa (.Call (.Attribute o name apos) [] [] pos) (sM0 ga k) := ⟨fun W tk =>
  PE.imp (pe_m0 slot ty rule (ha.run W tk) hbase hline) fun σ H Q ⟨F, Γ, R, Ex, Kc, oo, xl, q, kk⟩ =>
    ⟨F, Γ, R, Ex, _, oo, xl, q, fun ar Γ1 h1 v F1 H1 R1 o1 s1 a1 => by
      obtain ⟨da, ba, ⟨z, rfl⟩, h1⟩ := rdK_ok o1 a1 h1
      exact ⟨⟨z, ba.str⟩, hk F1 H1 σ Γ1 R1 v (.str z) _ Q o1 ba h1 fun v' H' ⟨t, F', R', r', o', s', x', p⟩ => kk _ _ p v' F' H' R' r' o' (s1.trans s') x'⟩⟩⟩
def kJoin : K2 := fun a b P => match a, b with
  | .str z, .lst ds => ∃ ys : List Str, ds = ys.map D.str ∧ (ys.map (·.length)).sum + ys.length * z.length ≤ 16777216 ∧ P (.leaf (.str (Txt.join z ys)))
  | _, _ => False
theorem k_join : Op2 X pa (fun x y H Q => ∃ a p, ∃ ys : List Str, x = .str a ∧ [y] = [.ref p] ∧ (SqL X.K H p (ys.map V.str) ∨ SqT X.K H p (ys.map V.str)) ∧ (ys.map (·.length)).sum + ys.length * a.length ≤ 16777216 ∧ Q (.str (Txt.join a ys)) H) kJoin := by
  intro F H σ Γ R x y a b P Q o ba bb h fin
  unfold kJoin at h
  split at h
  · obtain ⟨ys, rfl, hz, h⟩ := h
    obtain ⟨p, vs, e, q, r⟩ := bb.sqL o.sub
    rw [rp_strs r] at q
    exact ⟨_, p, ys, ba.str, by rw [e], .inl q, hz, fin _ _ (fin_leaf o (.str _) h)⟩
  · exact h.elim
theorem rp_strsV {K : PySem.W.Frag} {F : Hp} : ∀ {ss : List Str}, RpAll K F (ss.map V.str) (ss.map D.str)
  | [] => .nil
  | z :: ss => .cons (.str z) rp_strsV
def kSplit : K2 := fun a b P => match a, b with
  | .str x, .str y => (y.length == 0) = false ∧ x.length + 2 ≤ sizeLine ∧ P (.ls ((Txt.split x y).map .str))
  | _, _ => False
theorem k_split : Op2 X pa (fun x y H Q => ∃ a b, x = .str a ∧ [y] = [.str b] ∧ (b.length == 0) = false ∧ a.length + 2 ≤ sizeLine ∧ rNewStrs (Txt.split a b) H Q) kSplit := by
  intro F H σ Γ R x y a b P Q o ba bb h fin
  unfold kSplit at h
  split at h
  · obtain ⟨h1, h2, h⟩ := h
    exact ⟨_, _, ba.str, by rw [bb.str], h1, h2, fun p hp => fin _ _ (fin_ls o hp rp_strsV h)⟩
  · exact h.elim
def kPart : K2 := fun a b P => match a, b with
  | .str x, .str y => (y.length == 0) = false ∧ x.length ≤ sizeLine ∧ P (.leaf (.tup [.str (Txt.partition x y).1, .str (Txt.partition x y).2.1, .str (Txt.partition x y).2.2]))
  | _, _ => False
theorem k_part : Op2 X pa (fun x y H Q => ∃ a b, x = .str a ∧ [y] = [.str b] ∧ (b.length == 0) = false ∧ a.length ≤ sizeLine ∧ ∀ p, H p = none → Q (.ref p) (upd H p (.tup [.str (Txt.partition a b).1, .str (Txt.partition a b).2.1, .str (Txt.partition a b).2.2]))) kPart := by
  intro F H σ Γ R x y a b P Q o ba bb h fin
  unfold kPart at h
  split at h
  · obtain ⟨h1, h2, h⟩ := h
    exact ⟨_, _, ba.str, by rw [bb.str], h1, h2, fun p hp => fin _ _ (fin_tup o hp (.cons (.str _) (.cons (.str _) (.cons (.str _) .nil))) h)⟩
  · exact h.elim
/-- two texts -/
def kSS (C : Str → Str → Prop) (g : Str → Str → D) : K2 := fun a b P => match a, b with
  | .str x, .str y => C x y ∧ P (.leaf (g x y))
  | _, _ => False
theorem k_rmsuf : Op2 X pa (fun x y H Q => ∃ a b, x = .str a ∧ [y] = [.str b] ∧ a.length ≤ sizeLine ∧ Q (.str (Txt.removesuffix a b)) H) (kSS (fun x _ => x.length ≤ sizeLine) fun x y => .str (Txt.removesuffix x y)) := by
  intro F H σ Γ R x y a b P Q o ba bb h fin
  unfold kSS at h
  split at h
  · exact ⟨_, _, ba.str, by rw [bb.str], h.1, fin _ _ (fin_leaf o (.str _) h.2)⟩
  · exact h.elim
theorem k_endsw : Op2 X pa (fun x y H Q => ∃ a b, x = .str a ∧ [y] = [.str b] ∧ Q (.bl (Txt.endswith a b)) H) (kSS (fun _ _ => True) fun x y => .bl (Txt.endswith x y)) := by
  intro F H σ Γ R x y a b P Q o ba bb h fin
  unfold kSS at h
  split at h
  · exact ⟨_, _, ba.str, by rw [bb.str], fin _ _ (fin_leaf o (.bl _) h.2)⟩
  · exact h.elim
def kSI : K2 := fun a b P => match a, b with
  | .str x, .str y => ∃ i rest, Builtin.Str.occurrences x y 0 x.length 1 = i :: rest ∧ P (.leaf (.int (i : Nat)))
  | _, _ => False
theorem k_si : Op2 X pa (fun x y H Q => ∃ a b i rest, x = .str a ∧ [y] = [.str b] ∧ Builtin.Str.occurrences a b 0 a.length 1 = i :: rest ∧ Q (.int (i : Nat)) H) kSI := by
  intro F H σ Γ R x y a b P Q o ba bb h fin
  unfold kSI at h
  split at h
  · obtain ⟨i, rest, e, h⟩ := h
    exact ⟨_, _, i, rest, ba.str, by rw [bb.str], e, fin _ _ (fin_leaf o (.int _) h)⟩
  · exact h.elim
def kS0 (g : Str → D) : K1 := fun a P => match a with
  | .str x => P (.leaf (g x))
  | _ => False
theorem k_isdigit : Op1 X pa (fun x H Q => ∃ a, x = .str a ∧ ([] : List V) = [] ∧ True ∧ Q (.bl (Txt.isdigit a)) H) (kS0 fun x => .bl (Txt.isdigit x)) := by
  intro F H σ Γ R x a P Q o ba h fin
  unfold kS0 at h
  split at h
  · exact ⟨_, ba.str, rfl, trivial, fin _ _ (fin_leaf o (.bl _) h)⟩
  · exact h.elim
theorem k_isascii : Op1 X pa (fun x H Q => ∃ a, x = .str a ∧ ([] : List V) = [] ∧ True ∧ Q (.bl (Txt.isascii a)) H) (kS0 fun x => .bl (Txt.isascii x)) := by
  intro F H σ Γ R x a P Q o ba h fin
  unfold kS0 at h
  split at h
  · exact ⟨_, ba.str, rfl, trivial, fin _ _ (fin_leaf o (.bl _) h)⟩
  · exact h.elim
theorem ej_join (ha : AJ X pa o ga) (hb : AJ X pa e gb) (hs : starEach [e] X.env = [(false, eval e X.env)] := by rfl) (hbase : attributeBase o "join" X.env (eval o X.env) = eval o X.env := by rfl) (hline : (apos.endLine == pos.line) = true := by rfl) :
    EJ X pa (.Call (.Attribute o "join" apos) [e] [] pos) (sM1 ga gb kJoin) := ej_m1 F.slot_str_join F.type_str_join mt_join k_join ha hb hs hbase hline
theorem ej_split (ha : AJ X pa o ga) (hb : AJ X pa e gb) (hs : starEach [e] X.env = [(false, eval e X.env)] := by rfl) (hbase : attributeBase o "split" X.env (eval o X.env) = eval o X.env := by rfl) (hline : (apos.endLine == pos.line) = true := by rfl) :
    EJ X pa (.Call (.Attribute o "split" apos) [e] [] pos) (sM1 ga gb kSplit) := ej_m1 F.slot_str_split F.type_str_split mt_split k_split ha hb hs hbase hline
theorem ej_partition (ha : AJ X pa o ga) (hb : AJ X pa e gb) (hs : starEach [e] X.env = [(false, eval e X.env)] := by rfl) (hbase : attributeBase o "partition" X.env (eval o X.env) = eval o X.env := by rfl) (hline : (apos.endLine == pos.line) = true := by rfl) :
    EJ X pa (.Call (.Attribute o "partition" apos) [e] [] pos) (sM1 ga gb kPart) := ej_m1 F.slot_str_partition F.type_str_partition mt_partition k_part ha hb hs hbase hline
theorem ej_removesuffix (ha : AJ X pa o ga) (hb : AJ X pa e gb) (hs : starEach [e] X.env = [(false, eval e X.env)] := by rfl) (hbase : attributeBase o "removesuffix" X.env (eval o X.env) = eval o X.env := by rfl) (hline : (apos.endLine == pos.line) = true := by rfl) :
    EJ X pa (.Call (.Attribute o "removesuffix" apos) [e] [] pos) (sM1 ga gb (kSS (fun x _ => x.length ≤ sizeLine) fun x y => .str (Txt.removesuffix x y))) := ej_m1 F.slot_str_removesuffix F.type_str_removesuffix mt_removesuffix k_rmsuf ha hb hs hbase hline
theorem ej_endswith (ha : AJ X pa o ga) (hb : AJ X pa e gb) (hs : starEach [e] X.env = [(false, eval e X.env)] := by rfl) (hbase : attributeBase o "endswith" X.env (eval o X.env) = eval o X.env := by rfl) (hline : (apos.endLine == pos.line) = true := by rfl) :
    EJ X pa (.Call (.Attribute o "endswith" apos) [e] [] pos) (sM1 ga gb (kSS (fun _ _ => True) fun x y => .bl (Txt.endswith x y))) := ej_m1 F.slot_str_endswith F.type_str_endswith mt_endswith k_endsw ha hb hs hbase hline
theorem ej_sindex (ha : AJ X pa o ga) (hb : AJ X pa e gb) (hs : starEach [e] X.env = [(false, eval e X.env)] := by rfl) (hbase : attributeBase o "index" X.env (eval o X.env) = eval o X.env := by rfl) (hline : (apos.endLine == pos.line) = true := by rfl) :
    EJ X pa (.Call (.Attribute o "index" apos) [e] [] pos) (sM1 ga gb kSI) := ej_m1 F.slot_str_index F.type_str_index mt_sindex k_si ha hb hs hbase hline
theorem ej_isdigit (ha : AJ X pa o ga) (hbase : attributeBase o "isdigit" X.env (eval o X.env) = eval o X.env := by rfl) (hline : (apos.endLine == pos.line) = true := by rfl) :
    EJ X pa (.Call (.Attribute o "isdigit" apos) [] [] pos) (sM0 ga (kS0 fun x => .bl (Txt.isdigit x))) := ej_m0 F.slot_str_isdigit F.type_str_isdigit mt_isdigit k_isdigit ha hbase hline
theorem ej_isascii (ha : AJ X pa o ga) (hbase : attributeBase o "isascii" X.env (eval o X.env) = eval o X.env := by rfl) (hline : (apos.endLine == pos.line) = true := by rfl) :
    EJ X pa (.Call (.Attribute o "isascii" apos) [] [] pos) (sM0 ga (kS0 fun x => .bl (Txt.isascii x))) := ej_m0 F.slot_str_isascii F.type_str_isascii mt_isascii k_isascii ha hbase hline
@[simp] theorem kJoin_l {z : Str} {ds : List D} {P : O → Prop} : kJoin (.str z) (.lst ds) P = ∃ ys : List Str, ds = ys.map D.str ∧ (ys.map (·.length)).sum + ys.length * z.length ≤ 16777216 ∧ P (.leaf (.str (Txt.join z ys))) := rfl
@[simp] theorem kSplit_s {x y : Str} {P : O → Prop} : kSplit (.str x) (.str y) P = ((y.length == 0) = false ∧ x.length + 2 ≤ sizeLine ∧ P (.ls ((Txt.split x y).map .str))) := rfl
@[simp] theorem kPart_s {x y : Str} {P : O → Prop} : kPart (.str x) (.str y) P = ((y.length == 0) = false ∧ x.length ≤ sizeLine ∧ P (.leaf (.tup [.str (Txt.partition x y).1, .str (Txt.partition x y).2.1, .str (Txt.partition x y).2.2]))) := rfl
@[simp] theorem kSS_s {C : Str → Str → Prop} {g : Str → Str → D} {x y : Str} {P : O → Prop} : kSS C g (.str x) (.str y) P = (C x y ∧ P (.leaf (g x y))) := rfl
@[simp] theorem kSI_s {x y : Str} {P : O → Prop} : kSI (.str x) (.str y) P = ∃ i rest, Builtin.Str.occurrences x y 0 x.length 1 = i :: rest ∧ P (.leaf (.int (i : Nat))) := rfl
@[simp] theorem kS0_s {g : Str → D} {x : Str} {P : O → Prop} : kS0 g (.str x) P = P (.leaf (g x)) := rfl
/-! ### a sign in a text; slices of texts -/
def kInT (neg : Bool) : K2 := fun a b P => match a, b with
  | .str x, .str z => ∃ c, x = ⟨#[c]⟩ ∧ P (.leaf (.bl (if neg then !decide (c ∈ z.cps.toList) else decide (c ∈ z.cps.toList))))
  | _, _ => False
theorem k_inT : Op2 X pa (fun x y H Q => ∃ (c : Nat) (z : Str), x = .str ⟨#[c]⟩ ∧ y = .str z ∧ Q (.bl (decide (c ∈ z.cps.toList))) H) (kInT false) := by
  intro F H σ Γ R x y a b P Q o ba bb h fin
  unfold kInT at h
  split at h
  · obtain ⟨c, rfl, h⟩ := h
    exact ⟨c, _, ba.str, bb.str, fin _ _ (fin_leaf o (.bl _) h)⟩
  · exact h.elim
theorem k_notInT : Op2 X pa (fun x y H Q => ∃ (c : Nat) (z : Str), x = .str ⟨#[c]⟩ ∧ y = .str z ∧ Q (.bl (!decide (c ∈ z.cps.toList))) H) (kInT true) := by
  intro F H σ Γ R x y a b P Q o ba bb h fin
  unfold kInT at h
  split at h
  · obtain ⟨c, rfl, h⟩ := h
    exact ⟨c, _, ba.str, bb.str, fin _ _ (fin_leaf o (.bl _) h)⟩
  · exact h.elim
@[simp] theorem kInT_s {neg : Bool} {x z : Str} {P : O → Prop} : kInT neg (.str x) (.str z) P = ∃ c, x = ⟨#[c]⟩ ∧ P (.leaf (.bl (if neg then !decide (c ∈ z.cps.toList) else decide (c ∈ z.cps.toList)))) := rfl
def kSlT : K3 := fun a l u P => match a with
  | .str z => z.length ≤ sizeLine ∧ P (.leaf (.str (cutS z l u)))
  | _ => False
theorem k_slT : Op3 X pa rSlS kSlT := by
  intro F H σ Γ R x a l u P Q o ba h fin
  unfold kSlT at h
  split at h
  · exact ⟨_, ba.str, h.1, fin _ _ (fin_leaf o (.str _) h.2)⟩
  · exact h.elim
@[simp] theorem kSlT_s {z : Str} {l u : Option Int} {P : O → Prop} : kSlT (.str z) l u P = (z.length ≤ sizeLine ∧ P (.leaf (.str (cutS z l u)))) := rfl
@[simp] theorem kIx_s {z : Str} {i : Int} {P : O → Prop} : kIx (.str z) (.int i) P = ∃ c, z.length ≤ sizeLine ∧ atI z.cps.toList i = some c ∧ P (.leaf (.str ⟨#[c]⟩)) := rfl
@[simp] theorem kLen_s {z : Str} {P : O → Prop} : kLen [.str z] P = (z.length ≤ sizeLine ∧ P (.leaf (.int z.length))) := rfl
/-! ### int(text) -/
def rIntA : List V → Hp → VK → Prop := fun xs H Q => ((∃ i, xs = [.int i] ∧ Q (.int i) H) ∨ ∃ k, xs = [.bl k] ∧ Q (.int (if k then 1 else 0)) H) ∨ ∃ a n, xs = [.str a] ∧ PySem.intText? a = some n ∧ a.length ≤ 640 ∧ Q (.int n) H
theorem call_intA : CallR X (.type "int") rIntA := by
  intro pins s σ H xs us Q I r h
  rcases h with h | h
  · exact call_int1 pins s σ H xs us Q I r h
  · exact call_int_str pins s σ H xs us Q I r h
def kIntA : KN := fun ds P => match ds with
  | [.int i] => P (.leaf (.int i))
  | [.bl b] => P (.leaf (.int (if b then 1 else 0)))
  | [.str a] => ∃ n, PySem.intText? a = some n ∧ a.length ≤ 640 ∧ P (.leaf (.int n))
  | _ => False
theorem k_intA : OpN X pa rIntA kIntA := by
  intro F H σ Γ R xs ds P Q o bs h fin
  unfold kIntA at h
  split at h
  · cases bs with
    | cons b1 bs => cases bs; exact .inl (.inl ⟨_, by rw [b1.int], fin _ _ (fin_leaf o (.int _) h)⟩)
  · cases bs with
    | cons b1 bs => cases bs; exact .inl (.inr ⟨_, by rw [b1.bl], fin _ _ (fin_leaf o (.int _) h)⟩)
  · cases bs with
    | cons b1 bs =>
      cases bs
      obtain ⟨n, e1, e2, h⟩ := h
      exact .inr ⟨_, n, by rw [b1.str], e1, e2, fin _ _ (fin_leaf o (.int _) h)⟩
  · exact h.elim
@[simp] theorem kIntA_i {i : Int} {P : O → Prop} : kIntA [.int i] P = P (.leaf (.int i)) := rfl
@[simp] theorem kIntA_b {i : Bool} {P : O → Prop} : kIntA [.bl i] P = P (.leaf (.int (if i then 1 else 0))) := rfl
@[simp] theorem kIntA_s {a : Str} {P : O → Prop} : kIntA [.str a] P = ∃ n, PySem.intText? a = some n ∧ a.length ≤ 640 ∧ P (.leaf (.int n)) := rfl
/-! ### f-strings -/
abbrev SF := Str → List S → (Str → List S → Prop) → Xk → Prop
def tF (K : PySem.W.Frag) (pa : List V) (W : WX) (f : SF) (acc : Str) (σ : Sg) (H : Hp) (Q : Str → Hp → Prop) : Prop := ∃ F Γ R Ex Kc, OkF K pa F H σ Γ R ∧ XL K pa W σ F H R Ex ∧ f acc Γ Kc Ex ∧
  ∀ out Γ', Kc out Γ' → ∀ F' H' R', OkF K pa F' H' σ Γ' R' → Stp F H R F' H' R' [] → Q out H'
structure FJ (X : Cx) (pa : List V) (es : List Expr) (f : SF) : Prop where
  run : ∀ W, Takes X W → ∃ ts, PJ X es ts ∧ ∀ acc σ H Q, tF X.K pa W f acc σ H Q → tJs ts acc σ H Q
@[simp] def fNil : SF := fun acc Γ κ _ => κ acc Γ
@[simp] def fTxt (x : Str) (f : SF) : SF := fun acc Γ κ Ex => (acc ++ x).length ≤ sizeLine ∧ f (acc ++ x) Γ κ Ex
def fmtK (d : D) (κ : Str → Prop) : Prop := match d with
  | .str y => y.length ≤ sizeLine ∧ κ y
  | .int i => i.natAbs.log2 < 1920 ∧ κ (Str.ofString (toString i))
  | _ => False
@[simp] theorem fmtK_s {y : Str} {κ : Str → Prop} : fmtK (.str y) κ = (y.length ≤ sizeLine ∧ κ y) := rfl
@[simp] theorem fmtK_i {i : Int} {κ : Str → Prop} : fmtK (.int i) κ = (i.natAbs.log2 < 1920 ∧ κ (Str.ofString (toString i))) := rfl
@[simp] def fVal (ga : SA) (f : SF) : SF := fun acc Γ κ Ex => ga Γ (fun a Γ1 => rdK Γ1 a fun d => fmtK d fun y => (acc ++ y).length ≤ sizeLine ∧ f (acc ++ y) Γ1 κ Ex) Ex
theorem fj_nil : FJ X pa [] fNil := ⟨fun W tk => ⟨[], .nil, fun acc σ H Q ⟨F, Γ, R, Ex, Kc, o, xl, q, k⟩ => k _ _ q F H R o .refl⟩⟩
theorem fj_txt {x : Str} {j} {f : SF} (h : FJ X pa es f) : FJ X pa (.Constant (.str x) j pos :: es) (fTxt x f) := ⟨fun W tk => by
  obtain ⟨ts, h1, h2⟩ := h.run W tk
  exact ⟨_, .cons pe_str h1, fun acc σ H Q ⟨F, Γ, R, Ex, Kc, o, xl, q, k⟩ => ⟨x, rfl, q.1, h2 _ σ H Q ⟨F, Γ, R, Ex, Kc, o, xl, q.2, k⟩⟩⟩⟩
theorem fj_val {f : SF} (ha : AJ X pa a ga) (h : FJ X pa es f) : FJ X pa (.FormattedValue a (-1) none pos :: es) (fVal ga f) := ⟨fun W tk => by
  obtain ⟨ts, h1, h2⟩ := h.run W tk
  refine ⟨_, .cons (pe_fmt (ha.run W tk)) h1, fun acc σ H Q ⟨F, Γ, R, Ex, Kc, o, xl, q, k⟩ => ⟨F, Γ, R, Ex, _, o, xl, q, fun ar Γ1 h3 v F1 H1 R1 o1 s1 a1 => ?_⟩⟩
  obtain ⟨d, bp, h4⟩ := rdK_ok o1 a1 h3
  unfold fmtK at h4
  split at h4
  · exact .inl ⟨_, bp.str, h4.1, _, rfl, h4.2.1, h2 _ σ H1 Q ⟨F1, Γ1, R1, Ex, Kc, o1, xl.step s1, h4.2.2, fun out Γ' h5 F' H' R' o' s' => k _ _ h5 F' H' R' o' (s1.trans s')⟩⟩
  · exact .inr ⟨_, bp.int, h4.1, _, rfl, h4.2.1, h2 _ σ H1 Q ⟨F1, Γ1, R1, Ex, Kc, o1, xl.step s1, h4.2.2, fun out Γ' h5 F' H' R' o' s' => k _ _ h5 F' H' R' o' (s1.trans s')⟩⟩
  · exact h4.elim⟩
@[simp] def sFstr (f : SF) : SE := fun Γ κ Ex => f Str.empty Γ (fun out Γ' => κ (.leaf (.str out)) Γ') Ex
theorem ej_fstr {v1 v2 : Expr} {rest : List Expr} {f : SF} (h : FJ X pa (v1 :: v2 :: rest) f) : EJ X pa (.JoinedStr (v1 :: v2 :: rest) pos) (sFstr f) := ⟨fun W tk => by
  obtain ⟨ts, h1, h2⟩ := h.run W tk
  exact PE.imp (pe_joined h1) fun σ H Q ⟨F, Γ, R, Ex, Kc, o, xl, q, k⟩ => h2 _ σ H _ ⟨F, Γ, R, Ex, _, o, xl, q, fun out Γ' h5 F' H' R' o' s' => k _ _ h5 _ F' H' R' [] o' s' (.leaf (.str _))⟩⟩
/-! ### range(a, b, c) -/
@[simp] def iR3 (gs : SAs) : SI := fun Γ κ Ex => gs Γ (fun as Γ' => rdKs Γ' as fun ds => match ds with | [.int i, .int j, .int c] => ∃ n, RgC i j c n ∧ κ ((List.range n).map fun k => .int (i + (k : Nat) * c)) Γ' | _ => False) Ex
theorem itd_rngC {K : PySem.W.Frag} {F : Hp} {lo c : Int} {n : Nat} : ItD K (Itc lo c n) F ((List.range n).map fun i => .int (lo + (i : Nat) * c)) := fun i F1 H σ Γ R pa o sb => by
  refine ⟨fun d e => ?_, fun hl => (show n ≤ i by simp at hl; omega)⟩
  rw [List.getElem?_map] at e
  by_cases hi : i < n
  · rw [List.getElem?_range hi] at e
    cases e
    refine ⟨hi, fun x H' ⟨e1, e2⟩ => ?_⟩
    subst e1 e2
    exact ⟨F1, o, .refl, .int _⟩
  · rw [List.getElem?_eq_none (by simpa using hi)] at e; cases e
theorem ij_range3 {c : Expr} (hg : Gl X "range") (hm : X.mg "range" = none) (ha : AsJ X pa [a, b, c] gs)
    (hs : starEach [a, b, c] X.env = (false, eval a X.env) :: starEach [b, c] X.env := by rfl) (hpl : (backTo pos (starEach [b, c] X.env)).any (·.1) = false := by rfl) :
    IJ X pa tg (.Call (.Name "range" p) [a, b, c] [] pos) (iR3 gs) := ⟨fun W tk =>
  PI.imp (pi_range3 hg hm (ha.run W tk) hs hpl) fun σ H Q ⟨F, Γ, R, Ex, Kc, o, xl, q, k⟩ => ⟨F, Γ, R, Ex, _, o, xl, q, fun as Γ' h1 vs F' H' R' o' s' a' => by
    obtain ⟨ds, bs, h2⟩ := rdKs_ok o' a' h1
    split at h2
    · obtain ⟨n, hn, h2⟩ := h2
      cases bs with
      | cons b1 bs => cases bs with
        | cons b2 bs => cases bs with
          | cons b3 bs =>
            cases bs
            exact ⟨_, _, _, n, by rw [b1.int, b2.int, b3.int], hn, k _ _ h2 _ F' H' R' o' s' itd_rngC⟩
    · exact h2.elim⟩⟩
/-! ### for c in text -/
theorem itd_str {K : PySem.W.Frag} {F : Hp} {x : Str} : ItD K (Its x) F (x.cps.toList.map fun c => .str ⟨#[c]⟩) := fun i F1 H σ Γ R pa o sb => by
  refine ⟨fun d e => ?_, fun hl => (show x.cps.size ≤ i by simp at hl; omega)⟩
  rw [List.getElem?_map] at e
  cases hc : x.cps.toList[i]? with
  | none => rw [hc] at e; cases e
  | some c =>
    rw [hc] at e
    cases e
    have hi : i < x.cps.size := by have := (List.getElem?_eq_some_iff.mp hc).1; simpa using this
    refine ⟨hi, fun y H' ⟨e1, c', e2, e3⟩ => ?_⟩
    subst e1 e3
    have : c' = c := by
      rw [← Array.getElem?_toList, hc] at e2
      exact (Option.some.inj e2).symm
    subst this
    exact ⟨F1, o, .refl, .str _⟩
@[simp] def iT (ga : SA) : SI := fun Γ κ Ex => ga Γ (fun a Γ' => rdK Γ' a fun d => match d with | .str x => κ (x.cps.toList.map fun c => .str ⟨#[c]⟩) Γ' | _ => False) Ex
theorem ij_str (ha : AJ X pa a ga) : IJ X pa tg a (iT ga) := ⟨fun W tk => PI.imp (pi_str (ha.run W tk)) fun σ H Q ⟨F, Γ, R, Ex, Kc, o, xl, q, k⟩ => ⟨F, Γ, R, Ex, _, o, xl, q, fun y Γ' h1 v F' H' R' o' s' a' => by
  obtain ⟨d, bp, h2⟩ := rdK_ok o' a' h1
  split at h2
  · exact ⟨_, bp.str, k _ _ h2 _ F' H' R' o' s' itd_str⟩
  · exact h2.elim⟩⟩
/-! ### enumerate(text), enumerate(list) -/
def Itx (x : Str) : It :=
  ⟨fun i _ => i < x.cps.size, fun i H v H' => ∃ T c, v = .ref T ∧ H T = none ∧ H' = upd H T (.tup [.int (i : Nat), .str ⟨#[c]⟩]) ∧ x.cps[i]? = some c, fun i _ => x.cps.size = i⟩
theorem turn_enumS {P : Program} {w : World} {K : PySem.W.Frag} (x : Str) (t : Tok) (e it : Addr) :
    Turn P w K (.Tuple elts kk tpos) (Itx x) [e, it] e (fun i h => (∃ old, IsEnum h e it ((0 : Int) + ((i : Nat) : Int)) old) ∧ h.IsStrIter it (strIterType x) x t i ∧ e ≠ it) where
  mem := by simp
  obj := fun i h st b hb => by
    obtain ⟨⟨old, he⟩, ⟨o, ho, hc, hd⟩, _⟩ := st
    have e' : b = e ∨ b = it := by simpa using hb
    rcases e' with z | z
    · rw [z]; exact ⟨_, he, fun v q => nomatch q⟩
    · rw [z]; exact ⟨o, ho, fun v q => by rw [hd] at q; cases q⟩
  keep := fun i h h' st k => let ⟨⟨old, he⟩, ⟨o, ho, r⟩, hne⟩ := st; ⟨⟨old, k e (by simp) _ he⟩, ⟨o, k it (by simp) o ho, r⟩, hne⟩
  item := by
    intro X hP hw hK hc i pins s σ H E I hf st hg
    subst hP hw hK
    obtain ⟨⟨old, he⟩, hit, hne⟩ := st
    have hi : i < x.cps.size := hg
    have hel : e < s.heap.objs.size := Heap.lt_size he
    have hil : it < s.heap.objs.size := by obtain ⟨_, q, _⟩ := hit; exact Heap.lt_size q
    have D := Draws.text (prog := X.prog) (w := X.w) (A := X.A.in1) (show X.A.in1.handled = none from I.ok.hd hc) it x t
    refine wpAny_pyNext_enum_itemC D he hit hi hne (by simp [hne]) fun x' h' tk hP ho hst hT hsz hk => ?_
    obtain ⟨c, u, hcx, rfl⟩ := hP
    refine ⟨_, rfl, wpAny_letOwnedTupleGo_enum (s := { s with heap := h', toks := tk + 1 }) ho fun h'' he' sb => ?_⟩
    have hT2 : h''.get? s.heap.objs.size = some { cls := .type "tuple", data := .seq #[.int ((0 : Int) + ((i : Nat) : Int)) tk, .str ⟨#[c]⟩ u] } := (sb.2 _ (Nat.ne_of_gt hel)).trans hT
    have new : ObjOk X.prog X.w (upd H s.heap.objs.size (.tup [.int (i : Nat), .str ⟨#[c]⟩])) h'' s.heap.objs.size (.tup [.int (i : Nat), .str ⟨#[c]⟩]) :=
      ⟨by show 2 ≤ sizeLine; decide, [.int ((0 : Int) + ((i : Nat) : Int)) tk, .str ⟨#[c]⟩ u], .cons ⟨tk, by rw [Int.zero_add]⟩ (.cons ⟨u, rfl⟩ .nil), ⟨_, hT2, rfl, _, rfl⟩⟩
    have I1 : Inv X pins σ (upd H s.heap.objs.size (.tup [.int (i : Nat), .str ⟨#[c]⟩])) { s with heap := h'', toks := tk + 1 } :=
      I.turnedNew (ch := [e, it]) (fun b ob hb q => (sb.2 b (fun z => hb (by simp [z]))).trans (hk b ob (fun z => hb (by simp [z])) (fun z => hb (by simp [z])) q)) hf (Nat.le_refl _) new
    obtain ⟨oi, e1, e2, e3⟩ := hst
    refine ⟨.ref s.heap.objs.size, _, I1, rfl, ⟨_, c, rfl, I.hok.fresh (Nat.le_refl _), rfl, hcx⟩, ⟨⟨.str ⟨#[c]⟩ u, ?_⟩, ⟨oi, (sb.2 it (Ne.symm hne)).trans e1, e2, e3⟩, hne⟩, fun b hb => ?_⟩
    · have e1 : (0 : Int) + ((i + 1 : Nat) : Int) = 0 + (i : Int) + 1 := by omega
      rw [e1]; exact he'
    · have hb' : b < s.heap.objs.size := by
        have e' : b = e ∨ b = it := by simpa using hb
        rcases e' with z | z
        · rw [z]; exact hel
        · rw [z]; exact hil
      rw [upd_ne (Nat.ne_of_lt hb')]
      exact (hf b hb).1
  done := by
    intro X hP hw hK hc i pins s σ H E I hf st hg
    subst hP hw hK
    obtain ⟨⟨old, he⟩, hit, hne⟩ := st
    have hg : x.cps.size = i := hg
    obtain ⟨f0, f1, f2, f3, f4, f5⟩ := hf it (by simp)
    have D := Draws.text (prog := X.prog) (w := X.w) (A := X.A.in1) (show X.A.in1.handled = none from I.ok.hd hc) it x t
    refine wpAny_pyNext_enum_endD D he (by rw [hg]; exact hit) fun h' eb => ⟨rfl, I.turned (t' := s.toks) (fun b o hb q => eb b o hb q) f0 f1 f3 f4 f5⟩
  self := fun A i s Q E st h => let ⟨⟨_, he⟩, _⟩ := st; wpAny_pyIter_enum he h
theorem itd_enumS {K : PySem.W.Frag} {F : Hp} {x : Str} : ItD K (Itx x) F (enum 0 (x.cps.toList.map fun c => .str ⟨#[c]⟩)) := fun i F1 H σ Γ R pa o sb => by
  refine ⟨fun d e => ?_, fun hl => (show x.cps.size = i by unfold enum at hl; simpa using hl)⟩
  unfold enum at e
  rw [List.getElem?_map] at e
  by_cases hi : i < x.cps.size
  · rw [List.getElem?_range (by simpa using hi)] at e
    cases e
    have e0 : x.cps[i]? = some x.cps[i] := Array.getElem?_eq_getElem hi
    refine ⟨hi, fun y H' ⟨T, c, e3, e4, e5, e6⟩ => ?_⟩
    subst e3 e5
    rw [e0] at e6
    cases e6
    obtain ⟨o', s', sb'⟩ := o.newF (x := .tup [.int (i : Nat), .str ⟨#[x.cps[i]]⟩]) e4
    have eg : (x.cps.toList.map fun c => D.str ⟨#[c]⟩).getD i .non = .str ⟨#[x.cps[i]]⟩ := by
      rw [List.getD_eq_getElem?_getD, List.getElem?_map, Array.getElem?_toList, e0]; rfl
    refine ⟨_, o', s', .tup (SqT.of upd_same) ?_⟩
    rw [eg, Int.zero_add]
    exact .cons (.int _) (.cons (.str _) .nil)
  · rw [List.getElem?_eq_none (by simpa using hi)] at e; cases e
/-- the list at a as it stands -/
theorem itd_enumL {K : PySem.W.Frag} {F : Hp} {ar : Addr} {vs : List V} {ds : List D} (q : SqL K F ar vs) (r : RpAll K F vs ds) : ItD K (Ite K ar) F (enum 0 ds) := fun i F1 H σ Γ R pa o sb => by
  have sH := sb.trans o.sub
  refine ⟨fun d e => ?_, fun hl => ⟨vs, sH.sqL q, by rw [r.length]; unfold enum at hl; simp at hl; omega⟩⟩
  unfold enum at e
  rw [List.getElem?_map] at e
  by_cases hi : i < ds.length
  · rw [List.getElem?_range hi] at e
    cases e
    have e0 : ds[i]? = some (ds.getD i .non) := by rw [List.getD_eq_getElem?_getD, List.getElem?_eq_getElem hi]; rfl
    obtain ⟨v, e1, e2⟩ := r.get e0
    refine ⟨⟨vs, v, sH.sqL q, e1⟩, fun x H' ⟨T, y, e3, e4, e5, e6⟩ => ?_⟩
    subst e3 e5
    have := e6 vs (sH.sqL q)
    rw [e1] at this; cases this
    obtain ⟨o', s', sb'⟩ := o.newF (x := .tup [.int (i : Nat), v]) e4
    refine ⟨_, o', s', .tup (SqT.of upd_same) ?_⟩
    rw [Int.zero_add]
    exact RpAll.mono sb' _ _ (.cons (.int _) (.cons (Rp.mono sb _ _ e2) .nil))
  · rw [List.getElem?_eq_none (by simpa using hi)] at e; cases e
def iEnA (K : PySem.W.Frag) (tl : TA) : TI := fun σ H R => tl σ H fun vs H1 => (∃ a xs, vs = [.ref a] ∧ SqL K H1 a xs ∧ R (Ite K a) H1) ∨ (∃ x, vs = [.str x] ∧ R (Itx x) H1)
theorem pi_enA {ta : TA} (hg : Gl X "enumerate") (hm : X.mg "enumerate" = none) (ha : PA X [e] ta) (hs : starEach [e] X.env = [(false, eval e X.env)] := by rfl) : PI X (.Tuple elts kk tpos) (.Call (.Name "enumerate" p) [e] [] pos) (iEnA X.K ta) := by
  refine ⟨fun pins s σ H R I h => ?_⟩
  refine Call_ (ld_blt I hg hm boot_enumerate (PyProof.Rows.callWith_type1 (thn (ha.run pos pins s σ H _ I h) fun us s1 ⟨vs, H1, I1, r1, q1⟩ => ?_) hs rfl))
  rcases q1 with ⟨a, xs, e, hq, q⟩ | ⟨x, e, q⟩
  · subst e
    cases r1 with
    | cons r rr =>
      cases rr
      cases r
      obtain ⟨its, rv, p', hz⟩ := I1.list hq
      refine call_enumerate_list p'.isList fun h' he hit hsz hk => wpAny_pyIter_enum he ?_
      have I2 : Inv X pins σ H1 { s1 with heap := h' } := I1.kept (t' := s1.toks) hk
      refine ⟨s1.heap.objs.size + 1, [s1.heap.objs.size + 1, s1.heap.objs.size], _, _, H1, rfl, I2, turn_enum a (s1.heap.objs.size + 1) s1.heap.objs.size, ⟨⟨.none, he⟩, hit, Nat.succ_ne_self _⟩, fun b hb => ?_, q⟩
      have e' : b = s1.heap.objs.size + 1 ∨ b = s1.heap.objs.size := by simpa using hb
      have hle : s1.heap.objs.size ≤ b := by
        rcases e' with z | z
        · rw [z]; exact Nat.le_add_right _ _
        · rw [z]; exact Nat.le_refl _
      exact I1.fpOk hle (I1.hok.fresh hle)
  · subst e
    cases r1 with
    | cons r rr =>
      cases rr
      obtain ⟨t, rfl⟩ := r
      refine callEnum1 (begins_text x t) trivial fun h' he ho hk => wpAny_pyIter_enum he ?_
      have I2 : Inv X pins σ H1 { s1 with heap := h' } := I1.kept (t' := s1.toks) hk
      refine ⟨s1.heap.objs.size + 1, [s1.heap.objs.size + 1, s1.heap.objs.size], _, _, H1, rfl, I2, turn_enumS x t (s1.heap.objs.size + 1) s1.heap.objs.size, ⟨⟨.none, by simpa using he⟩, ⟨_, ho, rfl, rfl⟩, Nat.succ_ne_self _⟩, fun b hb => ?_, q⟩
      have hle : s1.heap.objs.size ≤ b := by
        have e' : b = s1.heap.objs.size + 1 ∨ b = s1.heap.objs.size := by simpa using hb
        rcases e' with z | z
        · rw [z]; exact Nat.le_add_right _ _
        · rw [z]; exact Nat.le_refl _
      exact I1.fpOk hle (I1.hok.fresh hle)
@[simp] def iEA (gs : SAs) : SI := fun Γ κ Ex => gs Γ (fun as Γ' => match as with | [a] => rdF Γ' a fun d => (match d with | .lst ds => κ (enum 0 ds) Γ' | .str x => κ (enum 0 (x.cps.toList.map fun c => .str ⟨#[c]⟩)) Γ' | _ => False) | _ => False) Ex
theorem ij_enumA (hg : Gl X "enumerate") (hm : X.mg "enumerate" = none) (ha : AsJ X pa [e] gs) (hs : starEach [e] X.env = [(false, eval e X.env)] := by rfl) : IJ X pa (.Tuple elts kk tpos) (.Call (.Name "enumerate" p) [e] [] pos) (iEA gs) := ⟨fun W tk =>
  PI.imp (pi_enA hg hm (ha.run W tk) hs) fun σ H Q ⟨F, Γ, R, Ex, Kc, o, xl, q, k⟩ => ⟨F, Γ, R, Ex, _, o, xl, q, fun as Γ' h1 vs F' H' R' o' s' a' => by
    split at h1
    · cases a' with
      | cons a1 a2 =>
        cases a2
        obtain ⟨d, rp, h2⟩ := rdF_ok o' a1 h1
        split at h2
        · cases rp with
          | lst q1 q2 => exact .inl ⟨_, _, rfl, SqL.of (o'.sub _ _ q1), k _ _ h2 _ F' H' R' o' s' (itd_enumL (SqL.of q1) q2)⟩
        · cases rp with
          | str x => exact .inr ⟨_, rfl, k _ _ h2 _ F' H' R' o' s' itd_enumS⟩
        · exact h2.elim
    · exact h1.elim⟩⟩
end
/-! ### a module's text, a module's dict of texts -/
theorem ej_globS {X : Cx} {pa : List V} {pos : Pos} {x : Str} {z : Str} (hg : Gl X x) (hm : ∃ t, X.mg x = some (.str z t)) (hd : (x == ("__debug__" : Str)) = false := by decide) : EJ X pa (.Name x pos) (sC (.str z)) := by
  obtain ⟨t, hm⟩ := hm
  exact ej_c (pe_glob hg hm (v := .str z) ⟨t, rfl⟩ hd) fun _ => .str z
structure DctSP (K : PySem.W.Frag) (w : World) (d : Addr) (kns : List (Str × Str)) : Prop where
  kd : ∃ es n, KDict K w d es n
  vals : ∀ z y, kns.lookup z = some y → ∃ t, PySem.W.nsIn K d z = some (some (.str y t))
structure DctS (K : PySem.W.Frag) (mg : Str → Option Value) (w : World) (x : Str) (kns : List (Str × Str)) : Type where
  d : Addr
  M : mg x = some (.ref d)
  P : DctSP K w d kns
section
variable {X : Cx} {pa : List V} {pos : Pos} {kns : List (Str × Str)} {d : Addr}
def kItS (d : Addr) (kns : List (Str × Str)) : K2 := fun a b P => match a, b with
  | .ref d', .str z => d' = d ∧ ∃ y, kns.lookup z = some y ∧ P (.leaf (.str y))
  | _, _ => False
theorem k_itS (h : DctSP X.K X.w d kns) : Op2 X pa (rIxD X.K X.w) (kItS d kns) := by
  intro F H σ Γ R x y a b P Q o ba bb hh fin
  unfold kItS at hh
  split at hh
  · obtain ⟨e, y, ey, hh⟩ := hh
    subst e
    obtain ⟨t, e1⟩ := h.vals _ _ ey
    obtain ⟨es, n, D⟩ := h.kd
    cases ba with
    | rp q =>
      cases q
      cases bb with
      | rp q =>
        cases q
        exact ⟨_, _, V.str y, rfl, rfl, ⟨es, n, _, D.at_, D.lit, e1, ⟨t, rfl⟩⟩, fin _ _ (fin_leaf o (.str _) hh)⟩
  · exact hh.elim
theorem ej_itS {a b : Expr} {ga gb : SA} (h : DctSP X.K X.w d kns) (ha : AJ X pa a ga) (hb : AJ X pa b gb) (hs : PlainIx b) : EJ X pa (.Subscript a b pos) (s2 ga gb (kItS d kns)) := ej_ix ix_kdict (k_itS h) ha hb hs
@[simp] theorem kItS_s {P : O → Prop} {z : Str} : kItS d kns (.ref d) (.str z) P = (∃ y, kns.lookup z = some y ∧ P (.leaf (.str y))) := by simp [kItS]
end
section
variable {X : Cx} {pa : List V} {pos p : Pos}
/-! ### {k1: e1, k2: e2}[y] -/
@[simp] def sDget2 (k1 k2 : Str) (g1 g2 gy : SA) : SE := fun Γ κ Ex => g1 Γ (fun a1 Γ1 => g2 Γ1 (fun a2 Γ2 => gy Γ2 (fun b Γ5 => rdK Γ5 b fun y =>
  ∃ z, y = .str z ∧ vals [a1, a2] fun ds => match ds with
    | [d1, d2] => (z = k1 ∧ κ (.leaf d1) Γ5) ∨ (z = k2 ∧ κ (.leaf d2) Γ5)
    | _ => False) Ex) Ex) Ex
theorem ej_dget2 {k1 k2 : Str} {u1 u2} {q1 q2 : Pos} {e1 e2 y : Expr} {g1 g2 gy : SA} (hu : X.A.units + 1 < cLine) (h1 : AJ X pa e1 g1) (h2 : AJ X pa e2 g2) (hy : AJ X pa y gy) (hs : NoSl y)
    (hd : k1 ≠ k2 := by decide) :
    EJ X pa (.Subscript (.Dict [some (.Constant (.str k1) u1 q1), some (.Constant (.str k2) u2 q2)] [e1, e2] p) y pos) (sDget2 k1 k2 g1 g2 gy) := ⟨fun W tk => by
  refine PE.imp (pe_dget hu (pe_disp (pps_cons pe_str (h1.run W tk) (pps_cons pe_str (h2.run W tk) pps_nil)) (by rfl) (by rfl) (fun z => by cases z) (show 2 ≤ 15 by decide)) (hy.run W tk) hs) fun σ H Q ⟨F, Γ, R, Ex, Kc, o, xl, q, kk⟩ p hp => ?_
  obtain ⟨o0, s0⟩ := o.newH (x := .dK []) hp
  have nF : F p = none := o.sub.none hp
  have nR : ∀ i, p ∉ R i := fun i h => o.hs i p h hp
  refine ⟨F, Γ, R, Ex, _, o0, xl.step s0, q, fun a1 Γ1 c1 v1 F1 H1 R1 o1 s1 b1 => ⟨F1, Γ1, R1, Ex, _, o1, (xl.step s0).step s1, c1, fun a2 Γ2 c2 v2 F2 H2 R2 o2 s2 b2 => ?_⟩⟩
  have st := s1.trans s2
  have hp4 : H2 p = some (.dK []) := st.keep p _ upd_same nR
  have nR4 : ∀ i, p ∉ R2 i := fun i h => by
    rcases st.rn i p h with z | ⟨j, z⟩
    · rw [upd_same] at z; cases z
    · exact nR j z
  have nF4 : F2 p = none := by
    cases e : F2 p with
    | none => rfl
    | some ob =>
      rcases st.fn p (by rw [e]; simp) with z | z | ⟨j, z⟩
      · exact absurd nF z
      · rw [upd_same] at z; cases z
      · exact (nR j z).elim
  refine ⟨hp4, [(.inr k1, v1), (.inr k2, v2)], rfl, show 2 ≤ 15 by decide, ?_⟩
  have em : mergeK [] [((.inr k1 : Key), v1), (.inr k2, v2)] = [(.inr k1, v1), (.inr k2, v2)] := by
    simp [mergeK, putK, hd, Ne.symm hd]
  rw [em]
  generalize hK : HO.dK [((.inr k1 : Key), v1), (.inr k2, v2)] = ob
  have o5 := o2.updY (x := ob) nF4 nR4
  have s5 : Stp F H R F2 (upd H2 p ob) R2 [] := by
    have t := s0.trans st
    refine ⟨t.sub, fun a y e n => ?_, t.rn, fun _ h => (nomatch h), t.fn⟩
    rw [upd_ne (fun e' => by rw [e', hp] at e; cases e)]
    exact t.keep a y e n
  refine ⟨F2, Γ2, R2, Ex, _, o5, xl.step s5, c2, fun b Γ5 c5 v5 F5 H5 R5 o6 s6 b5 => ?_⟩
  obtain ⟨dy, by5, z, rfl, c6⟩ := rdK_ok o6 b5 c5
  have hp5 : H5 p = some ob := s6.keep p _ upd_same nR4
  obtain ⟨ds, rp, c7⟩ := vals_ok (F := F5) (vs := [v1, v2]) (.cons (b1.mono (s2.sub.trans s6.sub)) (.cons (b2.mono s6.sub) .nil)) c6
  have ez := by5.str
  subst ez
  have lf : ∀ {v : V} {d : D}, Kc (.leaf d) Γ5 → Rp X.K F5 v d → Q v H5 := fun hk r => kk _ _ hk _ F5 _ R5 [] o6 (s5.trans s6) (.leaf r)
  cases rp with
  | cons r1 rp => cases rp with
    | cons r2 rp => cases rp with
      | nil =>
        rcases c7 with ⟨rfl, c7⟩ | ⟨rfl, c7⟩
        · exact ⟨p, v1, rfl, .inl ⟨_, .inr z, .inl (hK ▸ hp5), rfl, by simp [valV]⟩, lf c7 r1⟩
        · exact ⟨p, v2, rfl, .inl ⟨_, .inr z, .inl (hK ▸ hp5), rfl, by simp [valV, hd]⟩, lf c7 r2⟩⟩
end
end L3
/-! L3Ty: loops over mapped lists; what texts of tables and rows share -/
namespace L3
open PySem PySem.Spec PyProof.Rows L2 TL
/-- a comprehension over a mapped list -/
theorem compGo_of {α : Type} {g : SG} {f : SE} {vs : List Nat} {Γ0 : List S} {F : α → D} (r : α → D) : ∀ {xs : List α} {κ : List D → List S → Prop},
    (∀ x ∈ xs, ∀ (Y : D → List S → Prop), Y (r x) Γ0 → g (F x) Γ0 fun Γ2 => f Γ2 (fun t Γ3 => Y t.fz (clr vs Γ3)) noX) → κ (xs.map r) Γ0 → compGo g cYes f vs (xs.map F) Γ0 κ
  | [], κ, _, h => h
  | x :: xs, κ, hs, h => by
    rw [List.map_cons]
    unfold compGo
    exact hs x List.mem_cons_self (fun y Γ => compGo g cYes f vs (xs.map F) Γ fun ys Γ4 => κ (y :: ys) Γ4) (compGo_of r (fun e he => hs e (List.mem_cons_of_mem _ he)) h)
def xS (l : List Nat) : Str := ⟨l.toArray⟩
@[simp] theorem tl_xS {l : List Nat} : (xS l).cps.toList = l := rfl
@[simp] theorem len_xS {l : List Nat} : (xS l).length = l.length := by rw [len_tl]; rfl
theorem xS_app {a b : List Nat} : xS a ++ xS b = xS (a ++ b) := ext_tl (by rw [tl_append]; rfl)
theorem xS_tl {x : Str} : xS (tl x) = x := mk_tl x
theorem xS_one {c : Nat} : (⟨#[c]⟩ : Str) = xS [c] := rfl
theorem xS_empty : Str.empty = xS [] := rfl
theorem joinL_nil : ∀ {ps : List (List Nat)}, joinL [] ps = ps.flatten
  | [] => rfl
  | [p] => by simp [joinL]
  | p :: q :: r => by
    have := joinL_nil (ps := q :: r)
    show p ++ ([] ++ joinL [] (q :: r)) = _
    rw [this]
    simp
theorem joinL_snoc {S q : List Nat} : ∀ {ps : List (List Nat)}, ps ≠ [] → joinL S (ps ++ [q]) = joinL S ps ++ (S ++ q)
  | [], h => absurd rfl h
  | [p], _ => rfl
  | p :: p' :: r, _ => by
    have := joinL_snoc (S := S) (q := q) (ps := p' :: r) (by simp)
    show p ++ (S ++ joinL S ((p' :: r) ++ [q])) = p ++ (S ++ joinL S (p' :: r)) ++ (S ++ q)
    rw [this]
    simp
theorem join_xS {S : List Nat} {ps : List (List Nat)} : Txt.join (xS S) (ps.map xS) = xS (joinL S ps) := by
  refine ext_tl ?_
  rw [join_eq, tl_join, List.map_map]
  show joinL S (ps.map fun p => p) = _
  rw [List.map_id']
  rfl
theorem split_xS {s : Nat} (hs : s < 256) {ps : List (List Nat)} (hne : ps ≠ []) (hp : ∀ p ∈ ps, s ∉ p) : Txt.split (xS (joinL [s] ps)) (xS [s]) = ps.map xS := by
  rw [← join_xS]
  refine split_join (s := s) (S := []) rfl (by simp [xS, hs]) (by simpa using hne) fun p h => ?_
  obtain ⟨q, hq, rfl⟩ := List.mem_map.mp h
  exact hp q hq
theorem map_getDR {α β : Type} {f : α → β} {xs : List α} {a : α} {n : Nat} (h : xs.length = n) : ((List.range n).map fun k => f (xs.getD k a)) = xs.map f := by
  subst h
  refine List.ext_getElem (by simp) fun i h1 h2 => ?_
  rw [List.length_map, List.length_range] at h1
  rw [List.getElem_map, List.getElem_map, List.getElem_range, List.getD_eq_getElem?_getD, List.getElem?_eq_getElem h1]
  rfl
theorem rgN_get {n i : Nat} {d : D} (h : (List.map (fun i => L3.D.int ((i : Nat) : Int)) (List.range n))[i]? = some d) : i < n ∧ d = .int (i : Nat) := by
  rw [List.getElem?_map] at h
  cases e : (List.range n)[i]? with
  | none => rw [e] at h; cases h
  | some j =>
    rw [e] at h
    have hi : i < n := by simpa using (List.getElem?_eq_some_iff.mp e).1
    have ej : i = j := by simpa using (List.getElem?_eq_some_iff.mp e).2
    subst ej
    exact ⟨hi, by simpa using h.symm⟩
/-! ### texts that may be shown -/
theorem txt_show {z : Str} (h : ∀ c ∈ z.cps.toList, c < 16 ^ 8) : (reprText z).length ≤ 10 * z.length + 2 := by
  have := PySem.StrLaws.reprText_len z (by simpa only [List.all_eq_true, decide_eq_true_eq] using h)
  omega
theorem okTxt {z : Str} (hl : z.length ≤ 1000000) (h : ∀ c ∈ z.cps.toList, c < 16 ^ 8) : okRepr (.str z) := by
  refine ⟨rfl, by rw [D.py, PyData.showable], by simp [D.dep], ?_⟩
  rw [D.py, PyData.shown, sizeLine_eq]
  have := txt_show h
  omega
theorem okLst2 {z : Str} {d : D} (hl : z.length ≤ 100000) (h : ∀ c ∈ z.cps.toList, c < 16 ^ 8) (h1 : d.sm = true) (h2 : d.dep ≤ 50) (h3 : d.wt ≤ 1000000) : okRepr (.lst [.str z, d]) := by
  have hp := D.sm_pd d h1
  have hs := D.sm_show d h1
  have hw := D.sm_len d h1
  have ht := txt_show h
  refine ⟨by simp [D.pd, pds, hp], by simp [D.py, pys, PyData.showable, PyData.showableAll, hs], ?_, ?_⟩
  · simp [D.dep, deps]; omega
  · rw [D.py, PyData.shown]
    have := listText_len_le (PyData.shownAll (pys [.str z, d]))
    rw [sizeLine_eq]
    simp only [pys, PyData.shownAll, List.map_cons, List.map_nil, List.sum_cons, List.sum_nil, List.length_cons, List.length_nil] at this
    rw [show (D.str z).py.shown = reprText z by rw [D.py, PyData.shown]] at this
    simp only [pys, PyData.shownAll]
    rw [show (D.str z).py.shown = reprText z by rw [D.py, PyData.shown]]
    omega
/-! ### texts of tables -/
def whoC (b : Bool) : Nat := if b then 110 else 111
def enL (e : Bool × Int) : List Nat := [whoC e.1, 48 + e.2.toNat]
def stL (st : List (Bool × Int)) : List Nat := st.flatMap enL
def txL (tb : List (List (Bool × Int))) : List Nat := joinL [47] (tb.map stL)
theorem stL_len {st : List (Bool × Int)} : (stL st).length = 2 * st.length := by
  unfold stL
  rw [len_fm (L := 2) fun _ => rfl]
  omega
theorem stL_at : ∀ {st : List (Bool × Int)} {k : Nat} {e : Bool × Int}, st[k]? = some e → (stL st)[2 * k]? = some (whoC e.1) ∧ (stL st)[2 * k + 1]? = some (48 + e.2.toNat)
  | [], _, _, h => by simp at h
  | a :: st, 0, e, h => by
    simp at h
    subst h
    exact ⟨rfl, rfl⟩
  | a :: st, k + 1, e, h => by
    have := stL_at (st := st) (k := k) (e := e) (by simpa using h)
    show (whoC a.1 :: (48 + a.2.toNat) :: stL st)[2 * (k + 1)]? = _ ∧ (whoC a.1 :: (48 + a.2.toNat) :: stL st)[2 * (k + 1) + 1]? = _
    rw [show 2 * (k + 1) + 1 = (2 * k + 1) + 1 + 1 by omega, show 2 * (k + 1) = 2 * k + 1 + 1 by omega]
    simpa using this
/-- what sign may stand at the place i -/
def SgOk (i c : Nat) : Prop := if i % 55 = 54 then c = 47 else if i % 55 % 2 = 0 then c = 110 ∨ c = 111 else 48 ≤ c ∧ c ≤ 53
theorem stL_sg {st : List (Bool × Int)} (hl : st.length = 27) (he : ∀ e ∈ st, 0 ≤ e.2 ∧ e.2 < 6) {i c : Nat} (h : (stL st)[i]? = some c) : i < 54 ∧ SgOk i c := by
  have hi : i < 54 := by
    have := (List.getElem?_eq_some_iff.mp h).1
    rw [stL_len, hl] at this
    omega
  refine ⟨hi, ?_⟩
  obtain ⟨k, hk⟩ : ∃ k, i = 2 * k ∨ i = 2 * k + 1 := ⟨i / 2, by omega⟩
  have hkl : k < st.length := by omega
  obtain ⟨h1, h2⟩ := stL_at (List.getElem?_eq_getElem hkl)
  have b := he _ (List.getElem_mem hkl)
  unfold SgOk
  rw [if_neg (by omega)]
  rcases hk with rfl | rfl
  · rw [h1] at h
    cases h
    rw [if_pos (by omega)]
    unfold whoC
    split
    · exact .inl rfl
    · exact .inr rfl
  · rw [h2] at h
    cases h
    rw [if_neg (by omega)]
    omega
theorem stL_no {st : List (Bool × Int)} {s : Nat} (h : s < 48) : s ∉ stL st := by
  intro hm
  obtain ⟨e, _, hc⟩ := List.mem_flatMap.mp hm
  unfold enL whoC at hc
  simp at hc
  rcases hc with hc | hc
  · split at hc <;> omega
  · omega
theorem txL_all : ∀ {tb : List (List (Bool × Int))}, tb ≠ [] → (∀ st ∈ tb, st.length = 27) → (∀ st ∈ tb, ∀ e ∈ st, 0 ≤ e.2 ∧ e.2 < 6) → (txL tb).length = 55 * tb.length - 1 ∧ ∀ i c, (txL tb)[i]? = some c → SgOk i c
  | [], h, _, _ => absurd rfl h
  | [st], _, hl, he => by
    have l := hl st List.mem_cons_self
    have e := he st List.mem_cons_self
    refine ⟨?_, fun i c h => (stL_sg l e h).2⟩
    show (stL st).length = _
    rw [stL_len, l]
    rfl
  | st :: st' :: r, _, hl, he => by
    have l := hl st List.mem_cons_self
    have e := he st List.mem_cons_self
    obtain ⟨i1, i2⟩ := txL_all (tb := st' :: r) (by simp) (fun s hs => hl s (List.mem_cons_of_mem _ hs)) (fun s hs => he s (List.mem_cons_of_mem _ hs))
    have e0 : txL (st :: st' :: r) = stL st ++ ([47] ++ txL (st' :: r)) := rfl
    have l54 : (stL st).length = 54 := by rw [stL_len, l]
    rw [e0]
    refine ⟨?_, fun i c h => ?_⟩
    · rw [List.length_append, List.length_append, l54, i1]
      simp
      omega
    · by_cases h1 : i < 54
      · rw [List.getElem?_append_left (by omega)] at h
        exact (stL_sg l e h).2
      · rw [List.getElem?_append_right (by omega), l54] at h
        by_cases h2 : i = 54
        · subst h2
          simp at h
          subst h
          rfl
        · rw [show i - 54 = (i - 55) + 1 by omega] at h
          have h : (txL (st' :: r))[i - 55]? = some c := by simpa using h
          have := i2 _ _ h
          unfold SgOk at this ⊢
          rw [show i % 55 = (i - 55) % 55 by omega]
          exact this
theorem txL_snoc {tb : List (List (Bool × Int))} {st : List (Bool × Int)} : txL (tb ++ [st]) = txL tb ++ ((if tb.length > 0 then [47] else []) ++ stL st) := by
  unfold txL
  cases tb with
  | nil => rfl
  | cons a tb =>
    rw [List.map_append, List.map_cons (l := []), List.map_nil, joinL_snoc (by simp)]
    simp
theorem sgnOk_lt {i c : Nat} (h : SgOk i c) : c < 16 ^ 8 := by
  unfold SgOk at h
  split at h
  · subst h; decide
  · split at h
    · rcases h with rfl | rfl <;> decide
    · omega
theorem digit_txt {n : Int} (h0 : 0 ≤ n) (h1 : n < 6) : Str.ofString (toString n) = xS [48 + n.toNat] := by
  obtain ⟨k, rfl⟩ : ∃ k : Nat, n = k := ⟨n.toNat, by omega⟩
  have hk : k < 6 := by omega
  match k, hk with
  | 0, _ => rfl
  | 1, _ => rfl
  | 2, _ => rfl
  | 3, _ => rfl
  | 4, _ => rfl
  | 5, _ => rfl
theorem digit_val {n : Int} (h0 : 0 ≤ n) (h1 : n < 6) : PySem.intText? (xS [48 + n.toNat]) = some n := by
  obtain ⟨k, rfl⟩ : ∃ k : Nat, n = k := ⟨n.toNat, by omega⟩
  rw [← digit_txt h0 h1]
  exact int_num (by rw [numL_lt (by omega)]; simp)
end L3
/-! L3Er: own errors: what the written part tells of them; the field of the error that a suite holds; text * int -/
namespace L3
open PySem PySem.Spec PyProof.Rows L2
def initSt : Stmt → Stmt
  | .ClassDef _ _ _ (b :: _) _ _ _ _ _ _ _ => b
  | s => s
/-- an error of the class at S is what «except S» names -/
theorem exm_self {K : PySem.W.Frag} {S : Addr} (h1 : PySem.W.subIn K (.ref S) (.type "BaseException") = some true) (h2 : PySem.W.isClsIn K S = true) (h3 : PySem.W.typeIn K (.ref S) = some (.type "type")) (h4 : PySem.W.subIn K (.ref S) (.ref S) = some true) :
    PySem.W.exmOne K (.ref S) (.ref S) = some true := by
  have e1 : (PySem.W.subIn K (.ref S) (.type "BaseException") == some true) = true := by rw [h1] <;> rfl
  have e2 : ((PySem.W.clsIn K S).isSome && PySem.W.typeIn K (.ref S) == some (.type "type")) = true := by
    have h2' : (PySem.W.clsIn K S).isSome = true := h2
    rw [h2', h3] <;> rfl
  show (if (PySem.W.subIn K (.ref S) (.type "BaseException") == some true) = true then (if ((PySem.W.clsIn K S).isSome && PySem.W.typeIn K (.ref S) == some (.type "type")) = true then PySem.W.subIn K (.ref S) (.ref S) else none) else none) = some true
  rw [if_pos e1, if_pos e2]
  exact h4
structure ErrP (K : PySem.W.Frag) (mg : Str → Option Value) (cn fld qual : Str) (st : Stmt) (C fI : Addr) (fd : FuncData) : Prop where
  g : mg cn = some (.ref C)
  X : OexC K C
  F : Fun K "__init__" qual st fI fd
  B : Binds K fd ["self", fld] []
  iC : PySem.W.findIn K (.ref C) "__init__" = some (some (.ref fI))
  tI : PySem.W.typeIn K (.ref fI) = some (.type "function")
  ga : PySem.W.findIn K (.ref C) "__getattribute__" = some (some (.builtin "BaseException.__getattribute__"))
  gg : PySem.W.findIn K (.ref C) "__getattr__" = some none
  no : PySem.W.findIn K (.ref C) fld = some none
  hd : PySem.W.hasDictIn K C = true
  te : PySem.W.exmOne K (.ref C) (.ref C) = some true
def ErrP.t {K : PySem.W.Frag} {mg : Str → Option Value} {cn fld qual : Str} {st : Stmt} {C fI : Addr} {fd : FuncData} (e : ErrP K mg cn fld qual st C fI fd) : ErrT K mg cn fld qual st := ⟨C, fI, fd, e.g, e.X, e.F, e.B, e.iC, e.tI, e.ga, e.gg, e.no, e.hd, e.te⟩
theorem ErrT.p {K : PySem.W.Frag} {mg : Str → Option Value} {cn fld qual : Str} {st : Stmt} (e : ErrT K mg cn fld qual st) : ErrP K mg cn fld qual st e.C e.fI e.fd := ⟨e.g, e.X, e.F, e.B, e.iC, e.tI, e.ga, e.gg, e.no, e.hd, e.te⟩
section
variable {X : Cx} {pa : List V} {pos p p1 pos2 pos' np : Pos} {cn fld qual : Str} {st : Stmt} {C fI : Addr} {fd : FuncData} {a : Expr} {ga : SA} {z : SS}
theorem sj_raiseP (e : ErrP X.K X.mg cn fld qual st C fI fd) (F1 : FnOk X.prog X.w X.K X.mg X.base CX0 1 fI fd ["self", fld] (spI C fld)) (hc : X.calm = true) (hr : Room 2 X.A) (hg : Gl X cn) (ha : AJ X pa a ga)
    (hdb : (cn == ("__debug__" : Str)) = false := by decide) (he : starEach (a :: []) X.env = (false, eval a X.env) :: starEach [] X.env := by rfl) (hpl : (backTo pos (starEach [] X.env)).any (·.1) = false := by rfl) :
    SJ X pa (.Raise (some (.Call (.Name cn p) [a] [] pos)) none pos2) (zRaise C fld ga) := sj_raise e.t F1 hc hr hg ha hdb he hpl
theorem sj_tryP {i : Nat} {n : Str} {body suite : List Stmt} {b₀ : Stmt} {zs : Addr → Value → Option Addr → SS} (e : ErrP X.K X.mg cn fld qual st C fI fd) (hs : X.stack = X.env :: X.outer) (hf : X.env.frame = some X.env.locals) (hN : X.N.Nodup) (hi : X.N[i]? = some n) (hln : X.env.kindOf n = some .local) (hg : Gl X cn)
    (hb : ∀ (pn : List (Addr × Obj)) (xe : Value → Shared → Prop), SsJ (X.tr pn xe) pa body z)
    (hsu : ∀ (a : Addr) (oe : Obj) (cls : Value) (d : Option Addr) (pn : List (Addr × Obj)), Zc cls d oe → (∃ vs, oe.data = .fields vs) → SsJ (X.suite a ((a, oe) :: pn)) pa (b₀ :: suite) (zs a cls d))
    (hdb : (cn == ("__debug__" : Str)) = false := by decide) :
    SJ X pa (.Try body [.ExceptHandler (some (.Name cn np)) (some n) (b₀ :: suite) pos'] [] [] pos) (zTryAs C i z zs) := sj_tryAs e.t hs hf hN hi hln hg hb hsu hdb
@[simp] def sFldC (C a : Addr) (cls : Value) (d : Option Addr) (fld : Str) (i : Nat) : SE := fun Γ κ _ => cls = .ref C ∧ ∃ dd gs v, d = some dd ∧ Γ[i]? = some (.v (.exc a dd gs)) ∧ gs.lookup fld = some v ∧ κ (.leaf v) Γ
theorem ej_fldC {i : Nat} {n : Str} {a : Addr} {oe : Obj} {cls : Value} {d : Option Addr} {pn : List (Addr × Obj)} (e : ErrP X.K X.mg cn fld qual st C fI fd) (hz : Zc cls d oe) (hf : ∃ vs, oe.data = .fields vs) (hp : PE (X.suite a ((a, oe) :: pn)) (.Name n p1) (tVar i))
    (hb : attributeBase (.Name n p1) fld X.env (eval (.Name n p1) X.env) = eval (.Name n p1) X.env := by rfl) :
    EJ (X.suite a ((a, oe) :: pn)) pa (.Attribute (.Name n p1) fld pos) (sFldC C a cls d fld i) := ⟨fun W tk => by
  refine ⟨fun pins s σ H Q I ⟨F, Γ, R, Ex, Kc, o, xl, ⟨ec, dd, gs, v, ed, e1, e2, q⟩, k⟩ => ?_⟩
  subst ec
  exact ((ej_fld e.t hz hf hp hb).run W tk).run pins s σ H Q I ⟨F, Γ, R, Ex, Kc, o, xl, ⟨dd, gs, v, ed, e1, e2, q⟩, k⟩⟩
/-! text * int -/
def rMulS : R2 := fun x y H Q => ∃ (z : Str) (n : Int), x = .str z ∧ y = .int n ∧ MulOk z n ∧ Q (.str (Txt.mul z n)) H
theorem op_mulS : OpR X (binaryOp .Mult) rMulS := by
  rintro pins s σ H x y v u Q I rx ry ⟨z, n, rfl, rfl, h, q⟩
  obtain ⟨t, rfl⟩ := rx
  obtain ⟨t', rfl⟩ := ry
  exact SB.mul h fun t'' k => ⟨.str _, H, I.tok _, ⟨_, rfl⟩, q⟩
def kMulS : K2 := fun a b P => match a, b with
  | .str z, .int n => MulOk z n ∧ P (.leaf (.str (Txt.mul z n)))
  | _, _ => False
theorem k_mulS : Op2 X pa rMulS kMulS := by
  intro F H σ Γ R x y a b P Q o ba bb h fin
  unfold kMulS at h
  split at h
  · exact ⟨_, _, ba.str, bb.int, h.1, fin _ _ (fin_leaf o (.str _) h.2)⟩
  · exact h.elim
@[simp] theorem kMulS_s {z : Str} {n : Int} {P : O → Prop} : kMulS (.str z) (.int n) P = (MulOk z n ∧ P (.leaf (.str (Txt.mul z n)))) := rfl
end
theorem mulOk_small {z : Str} {n : Int} (h0 : 2 ≤ n) (h1 : n ≤ 10000) (hz : z.length ≤ 1000) : MulOk z n := by
  refine ⟨?_, fun _ _ h => ?_, fun _ _ => ?_⟩
  · simp
    omega
  · have : (1000 : Int) ≤ (2 ^ 63 - 1) / n := by
      rw [Int.le_ediv_iff_mul_le (by omega)]
      omega
    omega
  · have : z.length * n.toNat ≤ 1000 * 10000 := Nat.mul_le_mul hz (by omega)
    unfold Builtin.Str.tooLong
    rw [sizeLine_eq]
    exact decide_eq_false (by omega)
theorem cutS_to {l : List Nat} {k : Int} (h0 : 0 ≤ k) : cutS (xS l) none (some k) = xS (l.take k.toNat) := by
  obtain ⟨n, rfl⟩ : ∃ n : Nat, k = n := ⟨k.toNat, by omega⟩
  unfold cutS
  rw [HT.sIx_none, HT.sIx_nat, List.drop_zero, Nat.sub_zero, Int.toNat_natCast, len_xS]
  show (⟨((l.take (min n l.length))).toArray⟩ : Str) = xS (l.take n)
  by_cases h : n ≤ l.length
  · rw [Nat.min_eq_left h]; rfl
  · rw [Nat.min_eq_right (by omega), List.take_length, List.take_of_length_le (by omega)]; rfl
theorem cutS_from {l : List Nat} {k : Int} (h0 : 0 ≤ k) : cutS (xS l) (some k) none = xS (l.drop k.toNat) := by
  obtain ⟨n, rfl⟩ : ∃ n : Nat, k = n := ⟨k.toNat, by omega⟩
  unfold cutS
  rw [HT.sIx_none, HT.sIx_nat, Int.toNat_natCast, len_xS]
  show (⟨((l.drop (min n l.length)).take (l.length - min n l.length)).toArray⟩ : Str) = xS (l.drop n)
  by_cases h : n ≤ l.length
  · rw [Nat.min_eq_left h, List.take_of_length_le (by rw [List.length_drop]; exact Nat.le_refl _)]; rfl
  · rw [Nat.min_eq_right (by omega), Nat.sub_self, List.take_zero, List.drop_of_length_le (by omega)]; rfl
theorem rep_len {α : Type} {l : List α} : ∀ n : Nat, (List.replicate n l).flatten.length = n * l.length
  | 0 => by rw [Nat.zero_mul]; rfl
  | n + 1 => by rw [List.replicate_succ, List.flatten_cons, List.length_append, rep_len n, Nat.succ_mul]; omega
/-- a call whose one operand is an expression that may draw -/
theorem call_e1 {c fe : SE} {Γ : List S} {κ : O → List S → Prop} {Ex : Xk} (h : fe Γ (fun t Γ1 => c [.v t.fz] (fun t' Γo => shp [.v t.fz] Γo ∧ κ t' Γ1) fun x Γo => shp [.v t.fz] Γo ∧ Ex x Γ1) Ex) : sCallN 1 c (aCons (aE fe) aNil) Γ κ Ex := by
  have w : ∀ (t : O) (Γo Γ1 : List S), wb [.val t.fz] Γo Γ1 = Γ1 := fun t Γo Γ1 => wb_vals fun i k e => by rw [jOf_val, jOf_nil] at e; cases e
  show fe Γ (fun t Γ1 => [Arg.val t.fz].length = 1 ∧ c [.v t.fz] (fun t' Γo => shp [.v t.fz] Γo ∧ κ t' (wb [.val t.fz] Γo Γ1)) fun x Γo => shp [.v t.fz] Γo ∧ Ex x (wb [.val t.fz] Γo Γ1)) Ex
  simp only [w]
  simpa using h
theorem foldl_arr : ∀ (xs : List (Array Nat)) (a : Array Nat), (xs.foldl (· ++ ·) a).toList = a.toList ++ (xs.map Array.toList).flatten
  | [], a => by simp
  | x :: xs, a => by rw [List.foldl_cons, foldl_arr xs]; simp
theorem mul_xS {l : List Nat} {n : Int} (h0 : 2 ≤ n) (hl : l ≠ []) : Txt.mul (xS l) n = xS (List.replicate n.toNat l).flatten := by
  unfold Txt.mul
  have e1 : (n == 1) = false := by simp; omega
  have e2 : ((xS l).length == 0) = false := by rw [len_xS]; simp [hl]
  rw [if_neg (by omega), e1, e2, if_neg (by decide)]
  refine TL.ext_tl ?_
  show ((List.replicate n.toNat (xS l).cps).foldl (· ++ ·) #[]).toList = _
  rw [foldl_arr]
  simp
end L3
/-! L3Pz: texts of numbers, pieces and rows -/
namespace L3
open PySem PySem.Spec PyProof.Rows L2 TL
def isDg (c : Nat) : Bool := decide (48 ≤ c) && decide (c ≤ 57)
def valL (l : List Nat) : Nat := NumText.digitsVal l
def dgA (l : List Nat) : Bool := !l.isEmpty && l.all isDg
def canL (l : List Nat) : Bool := decide (l.length = 1) || decide (l.head? ≠ some 48)
def numOk (most : Nat) (l : List Nat) : Bool := dgA l && canL l && decide (valL l ≤ most)
theorem isDg_uni {c : Nat} (h : c < 128) : Unicode.isDigit c = isDg c := by
  have : ∀ c : Nat, c < 128 → Unicode.isDigit c = isDg c := by decide +kernel
  exact this c h
theorem dgA_is {l : List Nat} : (Txt.isascii (xS l) && Txt.isdigit (xS l)) = dgA l := by
  unfold Txt.isascii Txt.isdigit dgA
  rw [← Array.all_toList, ← Array.all_toList, tl_xS, len_xS]
  cases l with
  | nil => rfl
  | cons a l =>
    have : ∀ l : List Nat, (l.all (fun x => decide (x < 128)) && l.all Unicode.isDigit) = l.all isDg := fun l => by
      induction l with
      | nil => rfl
      | cons a l ih =>
        rw [List.all_cons, List.all_cons, List.all_cons, ← ih]
        by_cases h : a < 128
        · rw [isDg_uni h]
          simp [h, Bool.and_left_comm]
        · have : isDg a = false := by unfold isDg; simp; omega
          simp [h, this]
    have e := this (a :: l)
    simpa using e
theorem dgA_all {l : List Nat} (h : dgA l = true) : l ≠ [] ∧ NumText.AllDigits l := by
  obtain ⟨h1, h2⟩ := Bool.and_eq_true_iff.mp h
  refine ⟨fun e => ?_, fun c hc => ?_⟩
  · rw [e] at h1
    cases h1
  · have := List.all_eq_true.mp h2 c hc
    unfold isDg at this
    simpa using this
theorem valL_snoc {l : List Nat} {c : Nat} : valL (l ++ [c]) = valL l * 10 + (c - 48) := by
  unfold valL NumText.digitsVal
  rw [List.foldl_append]
  rfl
theorem val_pos : ∀ (n : Nat) {l : List Nat}, l.length = n → NumText.AllDigits l → l ≠ [] → l.head? ≠ some 48 → 1 ≤ valL l
  | 0, l, e, _, hn, _ => absurd (List.length_eq_zero_iff.mp e) hn
  | n + 1, l, e, hd, hn, h0 => by
    rcases List.eq_nil_or_concat l with rfl | ⟨l', c, rfl⟩
    · exact absurd rfl hn
    · rw [List.concat_eq_append] at *
      rw [valL_snoc]
      by_cases hl : l' = []
      · subst hl
        have := hd c (by simp)
        have h0 : c ≠ 48 := by simpa using h0
        have v0 : valL [] = 0 := rfl
        omega
      · have := val_pos n (l := l') (by simpa using e) (fun x hx => hd x (List.mem_append_left _ hx)) hl (by
          cases l' with
          | nil => exact absurd rfl hl
          | cons a r => simpa using h0)
        omega
theorem num_back : ∀ (n : Nat) {l : List Nat}, l.length = n → NumText.AllDigits l → l ≠ [] → canL l = true → numL (valL l) = l
  | 0, l, e, _, hn, _ => absurd (List.length_eq_zero_iff.mp e) hn
  | n + 1, l, e, hd, hn, hc => by
    rcases List.eq_nil_or_concat l with rfl | ⟨l', c, rfl⟩
    · exact absurd rfl hn
    · rw [List.concat_eq_append] at *
      have dc := hd c (by simp)
      rw [valL_snoc]
      by_cases hl : l' = []
      · subst hl
        have v0 : valL [] = 0 := rfl
        rw [v0, Nat.zero_mul, Nat.zero_add, numL_lt (by omega)]
        show [48 + (c - 48)] = [c]
        rw [show 48 + (c - 48) = c by omega]
      · have hd' : NumText.AllDigits l' := fun x hx => hd x (List.mem_append_left _ hx)
        have h48 : l'.head? ≠ some 48 := by
          unfold canL at hc
          have hlen : (l' ++ [c]).length ≠ 1 := by
            have := List.length_pos_iff.mpr hl
            simp
            omega
          rw [decide_eq_false hlen, Bool.false_or] at hc
          have := of_decide_eq_true hc
          cases l' with
          | nil => exact absurd rfl hl
          | cons a r => simpa using this
        have vp := val_pos _ rfl hd' hl h48
        have ih := num_back n (l := l') (by simpa using e) hd' hl (by unfold canL; rw [decide_eq_true h48]; simp)
        rw [numL_step (by omega), show (valL l' * 10 + (c - 48)) / 10 = valL l' by omega, ih, show 48 + (valL l' * 10 + (c - 48)) % 10 = c by omega]
theorem num_head : ∀ n : Nat, 1 ≤ n → (numL n).head? ≠ some 48 := by
  intro n
  induction n using Nat.strongRecOn with
  | _ n ih =>
    intro h
    by_cases h10 : n < 10
    · rw [numL_lt h10]
      simp
      omega
    · rw [numL_step (by omega)]
      have := ih (n / 10) (by omega) (by omega)
      have hne := numL_ne (n / 10)
      cases hq : numL (n / 10) with
      | nil => exact absurd hq hne
      | cons a r => rw [hq] at this; simpa using this
theorem num_can (n : Nat) : canL (numL n) = true := by
  unfold canL
  by_cases h : n = 0
  · subst h; rw [numL_lt (by decide)]; rfl
  · rw [decide_eq_true (num_head n (by omega))]; simp
theorem num_dg (n : Nat) : dgA (numL n) = true := by
  unfold dgA
  have h1 := numL_ne n
  have h2 := numL_digits n
  rw [show (numL n).isEmpty = false by cases h : numL n with | nil => exact absurd h h1 | cons a r => rfl]
  refine Bool.and_eq_true_iff.mpr ⟨rfl, List.all_eq_true.mpr fun c hc => ?_⟩
  have := h2 c hc
  unfold isDg
  simp
  omega
theorem numOk_num {most n : Nat} (h : n ≤ most) : numOk most (numL n) = true := by
  unfold numOk
  rw [num_dg, num_can, show valL (numL n) = n from numL_val n, decide_eq_true h]
  rfl
theorem txt_num (n : Nat) : Str.ofString (toString ((n : Nat) : Int)) = xS (numL n) := ext_tl (tl_num n)
theorem numOk_len {most k : Nat} {l : List Nat} (hk : 0 < k) (hm : most < 10 ^ k) (h : numOk most l = true) : l.length ≤ k := by
  obtain ⟨h1, h2⟩ := Bool.and_eq_true_iff.mp h
  obtain ⟨h0, h1⟩ := Bool.and_eq_true_iff.mp h1
  obtain ⟨n0, hd⟩ := dgA_all h0
  rw [← num_back _ rfl hd n0 h1]
  exact numL_len hk (Nat.lt_of_le_of_lt (of_decide_eq_true h2) hm)
/-! what a call reads of a number -/
def c_integer_read : SE := fun Γ κ _ => ∃ (l : List Nat) (most k : Nat), Γ = [.v (.str (xS l)), .v (.int (most : Nat))] ∧ l.length ≤ 100000 ∧ (numL most).length = k ∧ most < 10 ^ k ∧ k ≤ 7 ∧ κ (.leaf (if numOk most l = true then .int (valL l : Nat) else .non)) Γ
theorem ej_fnG {X : Cx} {pa : List V} {pos : Pos} {x : Str} {f : Addr} (hg : Gl X x) (hm : X.mg x = some (.ref f)) (hl : PySem.W.nsIn X.K mainGlobals x = some (some (.ref f))) (hd : (x == ("__debug__" : Str)) = false := by decide) : EJ X pa (.Name x pos) (sC (.fn x)) := ej_c (pe_glob hg hm (v := .ref f) rfl hd) fun _ => .fn hl
/-! ### a text cut at its first sign c -/
def befL (c : Nat) (l : List Nat) : List Nat := l.takeWhile (· ≠ c)
def aftL (c : Nat) (l : List Nat) : List Nat := l.drop ((befL c l).length + 1)
theorem bef_no {c : Nat} : ∀ {l : List Nat}, c ∉ befL c l
  | [], h => nomatch h
  | a :: l, h => by
    unfold befL at h
    rw [List.takeWhile_cons] at h
    split at h
    · rename_i e
      rcases List.mem_cons.mp h with rfl | h
      · simp at e
      · exact bef_no (l := l) h
    · cases h
theorem cut_at {c : Nat} {l : List Nat} (h : c ∈ l) : l = befL c l ++ c :: aftL c l := by
  unfold aftL befL
  induction l with
  | nil => cases h
  | cons a l ih =>
    by_cases e : a = c
    · subst e
      simp [List.takeWhile_cons]
    · have h' : c ∈ l := (List.mem_cons.mp h).resolve_left (Ne.symm e)
      have := ih h'
      simp only [List.takeWhile_cons, ne_eq, e, not_false_eq_true, decide_true, if_true, List.length_cons, List.cons_append]
      rw [List.drop_succ_cons]
      exact congrArg (a :: ·) this
theorem bef_none {c : Nat} {l : List Nat} (h : c ∉ l) : befL c l = l := by
  unfold befL
  induction l with
  | nil => rfl
  | cons a l ih =>
    have e : ¬ a = c := fun z => h (by rw [z]; exact List.mem_cons_self)
    rw [List.takeWhile_cons, if_pos (by simpa using e), ih fun z => h (List.mem_cons_of_mem _ z)]
theorem part_some {c : Nat} (hc : c < 256) {l : List Nat} (h : c ∈ l) : Txt.partition (xS l) (xS [c]) = (xS (befL c l), xS [c], xS (aftL c l)) := by
  have e := partition_app (y := xS [c]) (s := c) (S := []) rfl (a := xS (befL c l)) (b := xS (aftL c l)) (by rw [show tl (xS (befL c l)) = befL c l from rfl]; exact bef_no)
  rw [xS_app, xS_app, show befL c l ++ [c] ++ aftL c l = l by rw [List.append_assoc]; exact (cut_at h).symm] at e
  exact e
theorem part_none {c : Nat} {l : List Nat} (h : c ∉ l) : Txt.partition (xS l) (xS [c]) = (xS l, Str.empty, Str.empty) := partition_none (y := xS [c]) (s := c) (S := []) rfl h
theorem occ_one {c : Nat} {l : List Nat} (h : c ∈ l) : ∃ r, Builtin.Str.occurrences (xS l) (xS [c]) 0 (xS l).length 1 = (befL c l).length :: r := by
  have hy : tl (xS [c]) ≠ [] := by rw [show tl (xS [c]) = [c] from rfl]; simp
  have el := cut_at h
  have atb : StrLaws.At (xS l) (xS [c]) (xS l).length (befL c l).length := (at_iff hy _).mpr (by
    show pre [c] (l.drop (befL c l).length) = true
    conv => enter [1, 2, 2]; rw [el]
    rw [List.drop_left']
    · simp [pre]
    · rfl)
  rcases StrLaws.occ_head (xS l) (xS [c]) 1 (Nat.le_refl _) with ⟨_, hn⟩ | ⟨i, r, e, hi, hk⟩
  · exact absurd atb (hn _)
  · refine ⟨r, ?_⟩
    rw [e]
    have h1 : ¬ (befL c l).length < i := fun z => hk _ z atb
    have h2 : ¬ i < (befL c l).length := fun z => by
      have hp := (at_iff hy i).mp hi
      have : pre [c] (l.drop i) = true := hp
      rw [el, List.drop_append_of_le_length (by omega), List.drop_eq_getElem_cons z] at this
      have hm : (befL c l)[i] = c := by
        have := eq_of_beq this
        rw [List.cons_append] at this
        have h2 : [(befL c l)[i]] = [c] := this
        exact (List.cons.inj h2).1
      have hin := List.getElem_mem z
      rw [hm] at hin
      exact bef_no hin
    congr 1
    omega
/-! ### what is read of a piece -/
/-- a text split at the sign s -/
def splL (s : Nat) (l : List Nat) : List (List Nat) := spl [s] 0 [] l
theorem split_spL {s : Nat} (hs : s < 256) {l : List Nat} : Txt.split (xS l) (xS [s]) = (splL s l).map xS := by
  refine map_tl_inj ?_
  rw [split_spl _ _ (by rw [show tl (xS [s]) = [s] from rfl]; simp) (kind_ok (by simp [xS, hs])), List.map_map]
  show splL s l = (splL s l).map fun p => tl (xS p)
  rw [show (fun p => tl (xS p)) = id from rfl, List.map_id]
def itB (l : List Nat) : Bool := decide (l = [46]) || numOk 1000000 l
def itD (l : List Nat) : D := if numOk 1000000 l = true then .int (valL l : Nat) else .non
/-- without a last '!' -/
def offL (l : List Nat) : List Nat := if l.getLast? = some 33 then l.dropLast else l
def endB (l : List Nat) : Bool := decide (l.getLast? = some 33)
def wdL (l : List Nat) : List (List Nat) := splL 44 (offL (aftL 58 l))
def prB (l : List Nat) : Bool := decide (58 ∈ l) && numOk 5000 (befL 58 l) && (wdL l).all itB && decide (valL (befL 58 l) + (wdL l).length ≤ 5000)
def prD (l : List Nat) : D := .tup [.int (valL (befL 58 l) : Nat), .tup ((wdL l).map itD), .bl (endB (aftL 58 l))]
theorem end_is {c : Nat} {l : List Nat} : (decide (1 ≤ l.length) && Builtin.Str.subAt (xS l) (xS [c]) (l.length - 1)) = decide (l.getLast? = some c) := by
  rw [StrLaws.subAt_eq]
  rcases List.eq_nil_or_concat l with rfl | ⟨r, x, rfl⟩
  · rfl
  · rw [List.concat_eq_append]
    have e1 : ((xS (r ++ [x])).cps.toList.drop ((r ++ [x]).length - 1)).take (xS [c]).length = [x] := by
      rw [tl_xS, List.length_append, show r.length + [x].length - 1 = r.length by simp]
      simp
    rw [e1, tl_xS]
    simp
    by_cases h : x = c <;> simp [h]
theorem endsw_xS {l : List Nat} : Txt.endswith (xS l) (xS [33]) = endB l := by
  unfold Txt.endswith endB
  rw [← end_is (c := 33) (l := l), len_xS, len_xS]
  simp
theorem rmsuf_xS {l : List Nat} : Txt.removesuffix (xS l) (xS [33]) = xS (offL l) := by
  have e := end_is (c := 33) (l := l)
  unfold Txt.removesuffix offL
  rw [len_xS, len_xS]
  show Txt.affix (xS l) (if (decide (1 ≤ l.length) && Builtin.Str.subAt (xS l) (xS [33]) (l.length - 1)) = true then some (0, l.length - 1) else none) = _
  rw [e]
  by_cases h : l.getLast? = some 33
  · rw [if_pos (decide_eq_true h), if_pos h]
    have hl : l ≠ [] := fun z => by rw [z] at h; cases h
    have hp := List.length_pos_iff.mpr hl
    show (if (l.length - 1 - 0 == (xS l).length) = true then xS l else Builtin.Str.strSub (xS l) 0 (l.length - 1)) = _
    rw [if_neg (by rw [len_xS]; simp; omega)]
    refine ext_tl ?_
    show tl (Builtin.Str.strSub (xS l) 0 (l.length - 1)) = l.dropLast
    rw [tl_strSub, List.drop_zero, Nat.sub_zero, List.dropLast_eq_take]
    rfl
  · rw [if_neg (by simp [h]), if_neg h]
    rfl
theorem spl_len {s : Nat} : ∀ {l acc : List Nat} {p : List Nat}, p ∈ spl [s] 0 acc l → p.length ≤ acc.length + l.length
  | [], acc, p, h => by
    rw [spl_nil] at h
    rw [List.mem_singleton.mp h]
    exact Nat.le_refl _
  | c :: r, acc, p, h => by
    by_cases hp : pre [s] (c :: r) = true
    · rw [spl_hit hp] at h
      rcases List.mem_cons.mp h with rfl | h
      · omega
      · have := spl_len (l := r) h
        rw [List.length_cons]
        simp at this
        omega
    · rw [spl_miss (Bool.eq_false_iff.mpr hp)] at h
      have := spl_len h
      rw [List.length_append] at this
      rw [List.length_cons]
      simp at this
      omega
theorem spl_cnt {s : Nat} : ∀ {l acc : List Nat}, 1 ≤ (spl [s] 0 acc l).length ∧ (spl [s] 0 acc l).length ≤ l.length + 1
  | [], acc => by rw [spl_nil]; simp
  | c :: r, acc => by
    by_cases hp : pre [s] (c :: r) = true
    · rw [spl_hit hp]
      have := spl_cnt (s := s) (l := r) (acc := [])
      rw [List.length_cons, List.length_cons]
      simp at this ⊢
      omega
    · rw [spl_miss (Bool.eq_false_iff.mpr hp)]
      have := spl_cnt (s := s) (l := r) (acc := acc ++ [c])
      rw [List.length_cons]
      omega
theorem splL_len {s : Nat} {l p : List Nat} (h : p ∈ splL s l) : p.length ≤ l.length := by
  have := spl_len h
  simpa using this
theorem splL_cnt {s : Nat} {l : List Nat} : 1 ≤ (splL s l).length ∧ (splL s l).length ≤ l.length + 1 := spl_cnt
theorem offL_len {l : List Nat} : (offL l).length ≤ l.length := by
  unfold offL
  split
  · rw [List.length_dropLast]; omega
  · exact Nat.le_refl _
theorem befL_len {c : Nat} {l : List Nat} : (befL c l).length ≤ l.length := by
  by_cases h : c ∈ l
  · have := congrArg List.length (cut_at h)
    rw [List.length_append, List.length_cons] at this
    omega
  · rw [bef_none h]; exact Nat.le_refl _
theorem aftL_len {c : Nat} {l : List Nat} : (aftL c l).length ≤ l.length := by
  unfold aftL
  rw [List.length_drop]
  omega
theorem itB_nil : itB [] = false := by decide
theorem itD_it {l : List Nat} (h : itB l = true) : isIt (itD l) = true := by
  unfold itD
  split
  · rename_i hn
    have := (Bool.and_eq_true_iff.mp hn).2
    have := of_decide_eq_true this
    simp [isIt, isW]
    omega
  · rfl
theorem valL_lt {most : Nat} {l : List Nat} (h : numOk most l = true) : valL l ≤ most := of_decide_eq_true (Bool.and_eq_true_iff.mp h).2
theorem prD_ok {l : List Nat} (h : prB l = true) : isP (prD l) = true ∧ (prD l).sm = true := by
  unfold prB at h
  obtain ⟨h, h4⟩ := Bool.and_eq_true_iff.mp h
  obtain ⟨h, h3⟩ := Bool.and_eq_true_iff.mp h
  obtain ⟨h1, h2⟩ := Bool.and_eq_true_iff.mp h
  have h4 := of_decide_eq_true h4
  have v := valL_lt h2
  have c := (splL_cnt (s := 44) (l := offL (aftL 58 l))).1
  have c' : 1 ≤ (wdL l).length := c
  unfold prD
  refine ⟨?_, ?_⟩
  · show (decide ((0 : Int) ≤ (valL (befL 58 l) : Nat)) && decide (1 ≤ ((wdL l).map itD).length) && decide ((((wdL l).map itD).length : Int) ≤ 5000 - (valL (befL 58 l) : Nat)) && ((wdL l).map itD).all isIt) = true
    rw [List.length_map, decide_eq_true (by omega : (0 : Int) ≤ (valL (befL 58 l) : Nat)), decide_eq_true c', decide_eq_true (by omega : (((wdL l).length : Nat) : Int) ≤ 5000 - (valL (befL 58 l) : Nat))]
    rw [Bool.true_and, Bool.true_and, Bool.true_and, List.all_map]
    exact List.all_eq_true.mpr fun x hx => itD_it (List.all_eq_true.mp h3 x hx)
  · have hv : ((valL (befL 58 l) : Nat) : Int).natAbs < 10 ^ 60 := by omega
    have hs : sms ((wdL l).map itD) = true := sms_of fun x hx => by
      obtain ⟨p, hp, rfl⟩ := List.mem_map.mp hx
      unfold itD
      split
      · rename_i hn
        have := valL_lt hn
        simp [D.sm]
        omega
      · rfl
    simp [D.sm, sms, hs]
    omega
/-! ### signs of numbers -/
theorem dig_occ {c : Nat} (h : isDg c = true) : ∃ r, Builtin.Str.occurrences (Str.ofString "0123456789") (xS [c]) 0 (Str.ofString "0123456789").length 1 = (c - 48) :: r := by
  unfold isDg at h
  simp at h
  have hm : c ∈ [48, 49, 50, 51, 52, 53, 54, 55, 56, 57] := by simp; omega
  obtain ⟨r, e⟩ := occ_one hm
  refine ⟨r, ?_⟩
  have el : (befL c [48, 49, 50, 51, 52, 53, 54, 55, 56, 57]).length = c - 48 := by
    have : c = 48 ∨ c = 49 ∨ c = 50 ∨ c = 51 ∨ c = 52 ∨ c = 53 ∨ c = 54 ∨ c = 55 ∨ c = 56 ∨ c = 57 := by omega
    rcases this with rfl | rfl | rfl | rfl | rfl | rfl | rfl | rfl | rfl | rfl <;> rfl
  rw [el] at e
  exact e
theorem dig_in {c : Nat} : decide (c ∈ (Str.ofString "0123456789").cps.toList) = isDg c := by
  have : (Str.ofString "0123456789").cps.toList = [48, 49, 50, 51, 52, 53, 54, 55, 56, 57] := rfl
  rw [this]
  unfold isDg
  rw [← Bool.decide_and]
  refine decide_eq_decide.mpr ?_
  simp
  omega
theorem val_lt : ∀ (n : Nat) {l : List Nat}, l.length = n → l.all isDg = true → valL l < 10 ^ n
  | 0, l, e, _ => by rw [List.length_eq_zero_iff.mp e]; decide
  | n + 1, l, e, h => by
    rcases List.eq_nil_or_concat l with rfl | ⟨l', c, rfl⟩
    · cases e
    · rw [List.concat_eq_append] at *
      rw [List.all_append, Bool.and_eq_true] at h
      have ih := val_lt n (l := l') (by simpa using e) h.1
      have hc : isDg c = true := by simpa using h.2
      unfold isDg at hc
      simp at hc
      rw [valL_snoc, Nat.pow_succ]
      omega
theorem bef_take {c : Nat} {l : List Nat} (h : c ∈ l) : l.take (befL c l).length = befL c l := by
  have e := congrArg (List.take (befL c l).length) (cut_at h)
  rw [e, List.take_left' rfl]
theorem all_dg {most : Nat} {l : List Nat} (h : numOk most l = true) : l.all isDg = true := by
  unfold numOk dgA at h
  simp only [Bool.and_eq_true] at h
  exact h.1.1.2
theorem numOk_of {most : Nat} {l : List Nat} {m : Nat} (h : numOk most l = true) (hv : valL l ≤ m) : numOk m l = true := by
  unfold numOk at h ⊢
  simp only [Bool.and_eq_true] at h ⊢
  exact ⟨h.1, decide_eq_true hv⟩
theorem cutS_m1 {r : List Nat} {c : Nat} : cutS (xS (r ++ [c])) none (some (-1)) = xS r := by
  unfold cutS
  rw [HT.sIx_none, List.drop_zero, Nat.sub_zero, len_xS]
  have e : HT.sIx (r ++ [c]).length (r ++ [c]).length (some (-1)) = r.length := by
    show (if (-1 : Int) < 0 then ((-1 : Int) + ((r ++ [c]).length : Int)).toNat else min (-1 : Int).toNat (r ++ [c]).length) = r.length
    rw [if_pos (by decide), List.length_append]
    simp
    omega
  rw [e, tl_xS, List.take_left' rfl]
  rfl
/-- the least number that a test takes -/
theorem range_first {n z : Nat} {p : Nat → Bool} {r : List Nat} (h : (List.range n).filter p = z :: r) : z < n ∧ p z = true ∧ ∀ j, j < z → p j = false := by
  obtain ⟨l1, l2, e, h1, h2, h3⟩ := List.filter_eq_cons_iff.mp h
  have ez : l1.length = z := by
    have a : (l1 ++ z :: l2)[l1.length]? = some z := by rw [List.getElem?_append_right (Nat.le_refl _), Nat.sub_self]; rfl
    rw [← e] at a
    obtain ⟨hb, hv⟩ := List.getElem?_eq_some_iff.mp a
    rw [List.getElem_range] at hv
    exact hv
  have hz : z ∈ List.range n := by rw [e]; simp
  refine ⟨List.mem_range.mp hz, h2, fun j hj => ?_⟩
  have hjn : j < n := Nat.lt_trans hj (List.mem_range.mp hz)
  have a : (List.range n)[j]? = some j := by rw [List.getElem?_eq_getElem (by simpa using hjn), List.getElem_range]
  rw [e, List.getElem?_append_left (by omega)] at a
  have := h1 j (List.mem_of_getElem? a)
  simpa using this
/-! ### texts of at most n signs, each of which may be shown -/
def ChB (l : List Nat) : Prop := ∀ c ∈ l, c < 16 ^ 8
def TxB (n : Nat) (z : Str) : Prop := ∃ l, z = xS l ∧ l.length ≤ n ∧ ChB l
theorem ChB.app {p q : List Nat} (hp : ChB p) (hq : ChB q) : ChB (p ++ q) := fun x hx => (List.mem_append.mp hx).elim (hp x) (hq x)
theorem ChB.take {p : List Nat} {n : Nat} (hp : ChB p) : ChB (p.take n) := fun x hx => hp x (List.mem_of_mem_take hx)
theorem ChB.drop {p : List Nat} {n : Nat} (hp : ChB p) : ChB (p.drop n) := fun x hx => hp x (List.mem_of_mem_drop hx)
theorem ChB.cons {x : Nat} {q : List Nat} (hx : x < 16 ^ 8) (hq : ChB q) : ChB (x :: q) := fun y hy => (List.mem_cons.mp hy).elim (fun e => e ▸ hx) (hq y)
theorem TxB.mono {n m : Nat} {z : Str} (h : TxB n z) (l : n ≤ m) : TxB m z := let ⟨a, b, c, d⟩ := h; ⟨a, b, Nat.le_trans c l, d⟩
theorem TxB.len {n : Nat} {z : Str} (h : TxB n z) : z.length ≤ n := by
  obtain ⟨l, rfl, b1, _⟩ := h
  rw [len_xS]
  exact b1
theorem tb_lit {z : Str} (h2 : ∀ c ∈ z.cps.toList, c < 16 ^ 8 := by decide) : TxB z.length z := ⟨z.cps.toList, (xS_tl (x := z)).symm, by rw [TL.len_tl]; exact Nat.le_refl _, h2⟩
theorem tb_app {n m : Nat} {a b : Str} (h1 : TxB n a) (h2 : TxB m b) : TxB (n + m) (a ++ b) := by
  obtain ⟨l1, rfl, b1, c1⟩ := h1
  obtain ⟨l2, rfl, b2, c2⟩ := h2
  exact ⟨l1 ++ l2, xS_app, by rw [List.length_append]; omega, c1.app c2⟩
theorem tb_mul {m : Nat} {n : Int} {a : Str} (h0 : 2 ≤ n) (h : TxB m a) (ne : a.cps.toList ≠ []) : TxB (n.toNat * m) (Txt.mul a n) := by
  obtain ⟨l, rfl, b1, c1⟩ := h
  rw [mul_xS h0 (show l ≠ [] from ne)]
  refine ⟨_, rfl, ?_, fun c hc => ?_⟩
  · rw [rep_len]
    exact Nat.mul_le_mul_left _ b1
  · obtain ⟨p, hp, hc⟩ := List.mem_flatten.mp hc
    rw [(List.mem_replicate.mp hp).2] at hc
    exact c1 c hc
theorem tb_join {n : Nat} {S : Str} (hS : TxB 1 S) : ∀ {ys : List Str}, (∀ y ∈ ys, TxB n y) → TxB (ys.length * (n + 1)) (Txt.join S ys)
  | [], _ => by rw [TL.join_eq]; exact ⟨[], rfl, Nat.zero_le _, fun _ h => nomatch h⟩
  | [y], h => by
    rw [TL.join_eq]
    exact (h y List.mem_cons_self).mono (by show n ≤ 1 * (n + 1); omega)
  | y :: y' :: r, h => by
    have ih := tb_join (n := n) hS (ys := y' :: r) fun z hz => h z (List.mem_cons_of_mem _ hz)
    rw [TL.join_eq] at ih ⊢
    show TxB _ (y ++ S ++ Str.join S (y' :: r))
    refine (tb_app (tb_app (h y List.mem_cons_self) hS) ih).mono ?_
    show n + 1 + (y' :: r).length * (n + 1) ≤ (y :: y' :: r).length * (n + 1)
    rw [List.length_cons (a := y), Nat.succ_mul]
    omega
theorem tb_join_len {n : Nat} {S : Str} (e : S.length = 1) {ys : List Str} (h : ∀ y ∈ ys, TxB n y) : (ys.map (·.length)).sum + ys.length * S.length ≤ ys.length * (n + 1) := by
  rw [e]
  induction ys with
  | nil => simp
  | cons y ys ih =>
    obtain ⟨l, rfl, b1, _⟩ := h y List.mem_cons_self
    have := ih fun z hz => h z (List.mem_cons_of_mem _ hz)
    rw [List.map_cons, List.sum_cons, List.length_cons, Nat.succ_mul, len_xS]
    rw [Nat.succ_mul (ys.length) (n + 1)]
    omega
end L3
/-! L3Py: texts of pieces and rows -/
namespace L3
open PySem PySem.Spec PyProof.Rows L2 TL
theorem bef_app {c : Nat} : ∀ {a b : List Nat}, c ∉ a → befL c (a ++ c :: b) = a
  | [], b, _ => by unfold befL; rw [List.nil_append, List.takeWhile_cons, if_neg (by simp)]
  | x :: a, b, h => by
    have hx : ¬ x = c := fun e => h (e ▸ List.mem_cons_self)
    have := bef_app (a := a) (b := b) fun z => h (List.mem_cons_of_mem _ z)
    unfold befL at this ⊢
    rw [List.cons_append, List.takeWhile_cons, if_pos (by simpa using hx), this]
theorem aft_app {c : Nat} {a b : List Nat} (h : c ∉ a) : aftL c (a ++ c :: b) = b := by
  unfold aftL
  rw [bef_app h, ← List.drop_drop, List.drop_left' rfl]
  rfl
theorem off_bang {v : List Nat} : offL (v ++ [33]) = v := by
  unfold offL
  rw [List.getLast?_concat, if_pos rfl, List.dropLast_concat]
theorem end_bang {v : List Nat} : endB (v ++ [33]) = true := by
  unfold endB
  rw [List.getLast?_concat]
  rfl
theorem off_no {v : List Nat} (h : 33 ∉ v) : offL v = v := by
  unfold offL
  rw [if_neg fun e => h (List.mem_of_getLast? e)]
theorem end_no {v : List Nat} (h : 33 ∉ v) : endB v = false := by
  unfold endB
  exact decide_eq_false fun e => h (List.mem_of_getLast? e)
theorem xS_map_inj : ∀ {a b : List (List Nat)}, a.map xS = b.map xS → a = b
  | [], [], _ => rfl
  | [], _ :: _, h => by cases h
  | _ :: _, [], h => by cases h
  | x :: a, y :: b, h => by
    rw [List.map_cons, List.map_cons] at h
    obtain ⟨h1, h2⟩ := List.cons.inj h
    have h1 : x = y := congrArg (fun z : Str => z.cps.toList) h1
    rw [h1, xS_map_inj h2]
theorem splL_join {s : Nat} (hs : s < 256) {ps : List (List Nat)} (hne : ps ≠ []) (hp : ∀ p ∈ ps, s ∉ p) : splL s (joinL [s] ps) = ps := xS_map_inj ((split_spL hs).symm.trans (split_xS hs hne hp))
theorem mem_joinL {s c : Nat} : ∀ {ps : List (List Nat)}, c ∈ joinL [s] ps → c = s ∨ ∃ p ∈ ps, c ∈ p
  | [], h => by cases h
  | [p], h => .inr ⟨p, List.mem_cons_self, h⟩
  | p :: q :: r, h => by
    have h : c ∈ p ++ ([s] ++ joinL [s] (q :: r)) := h
    rcases List.mem_append.mp h with h | h
    · exact .inr ⟨p, List.mem_cons_self, h⟩
    · rcases List.mem_append.mp h with h | h
      · exact .inl (by simpa using h)
      · rcases mem_joinL h with h | ⟨x, hx, h⟩
        · exact .inl h
        · exact .inr ⟨x, List.mem_cons_of_mem _ hx, h⟩
theorem joinL_le {s n : Nat} : ∀ {ps : List (List Nat)}, (∀ p ∈ ps, p.length ≤ n) → (joinL [s] ps).length ≤ ps.length * (n + 1)
  | [], _ => Nat.zero_le _
  | [p], h => by
    have := h p List.mem_cons_self
    show p.length ≤ 1 * (n + 1)
    omega
  | p :: q :: r, h => by
    have h1 := h p List.mem_cons_self
    have ih := joinL_le (s := s) (ps := q :: r) fun x hx => h x (List.mem_cons_of_mem _ hx)
    show (p ++ ([s] ++ joinL [s] (q :: r))).length ≤ _
    rw [List.length_append, List.length_append, List.length_cons (a := p), Nat.succ_mul]
    simp only [List.length_cons, List.length_nil] at ih ⊢
    omega
/-! ### pieces -/
def itL : Option Nat → List Nat
  | none => [46]
  | some n => numL n
def oiD : Option Nat → D
  | none => .non
  | some n => .int (n : Nat)
abbrev P3 := Nat × List (Option Nat) × Bool
def valsL (vs : List (Option Nat)) : List Nat := joinL [44] (vs.map itL)
def bangL (e : Bool) : List Nat := if e = true then [33] else []
def pieL (p : P3) : List Nat := numL p.1 ++ 58 :: (valsL p.2.1 ++ bangL p.2.2)
def p3D (p : P3) : D := .tup [.int (p.1 : Nat), .tup (p.2.1.map oiD), .bl p.2.2]
structure P3Ok (p : P3) : Prop where
  ne : p.2.1 ≠ []
  le : p.1 + p.2.1.length ≤ 5000
  it : ∀ n, some n ∈ p.2.1 → n ≤ 1000000
theorem itL_sg {o : Option Nat} {c : Nat} (h : c ∈ itL o) : c = 46 ∨ (48 ≤ c ∧ c ≤ 57) := by
  cases o with
  | none => exact .inl (by simpa [itL] using h)
  | some n => exact .inr (numL_digits n c h)
theorem valsL_sg {vs : List (Option Nat)} {c : Nat} (h : c ∈ valsL vs) : c = 44 ∨ c = 46 ∨ (48 ≤ c ∧ c ≤ 57) := by
  rcases mem_joinL h with h | ⟨p, hp, h⟩
  · exact .inl h
  · obtain ⟨o, _, rfl⟩ := List.mem_map.mp hp
    exact .inr (itL_sg h)
theorem pieL_sg {p : P3} {c : Nat} (h : c ∈ pieL p) : c = 33 ∨ c = 44 ∨ c = 46 ∨ (48 ≤ c ∧ c ≤ 58) := by
  unfold pieL at h
  rcases List.mem_append.mp h with h | h
  · have := numL_digits p.1 c h
    omega
  · rcases List.mem_cons.mp h with h | h
    · omega
    · rcases List.mem_append.mp h with h | h
      · have := valsL_sg h
        omega
      · unfold bangL at h
        split at h
        · simp at h
          omega
        · cases h
theorem pieL_ch {p : P3} : ChB (pieL p) := fun c hc => by
  have := pieL_sg hc
  omega
theorem it_ok {o : Option Nat} (h : ∀ n, o = some n → n ≤ 1000000) : itB (itL o) = true ∧ itD (itL o) = oiD o := by
  cases o with
  | none => exact ⟨by decide, by rfl⟩
  | some n =>
    have h1 := numOk_num (h n rfl)
    unfold itB itD
    rw [show itL (some n) = numL n from rfl, h1]
    refine ⟨by simp, ?_⟩
    rw [if_pos rfl, show valL (numL n) = n from numL_val n]
    rfl
theorem pie_read {p : P3} (h : P3Ok p) : prB (pieL p) = true ∧ prD (pieL p) = p3D p := by
  have n58 : 58 ∉ numL p.1 := fun hc => by
    have := numL_digits p.1 58 hc
    omega
  have h58 : 58 ∈ pieL p := by unfold pieL; simp
  have eb : befL 58 (pieL p) = numL p.1 := bef_app n58
  have ea : aftL 58 (pieL p) = valsL p.2.1 ++ bangL p.2.2 := aft_app n58
  have n33 : 33 ∉ valsL p.2.1 := fun hc => by
    have := valsL_sg hc
    omega
  have eo : offL (valsL p.2.1 ++ bangL p.2.2) = valsL p.2.1 ∧ endB (valsL p.2.1 ++ bangL p.2.2) = p.2.2 := by
    unfold bangL
    cases p.2.2 with
    | true => exact ⟨off_bang, end_bang⟩
    | false =>
      rw [if_neg (by decide), List.append_nil]
      exact ⟨off_no n33, end_no n33⟩
  have ew : wdL (pieL p) = p.2.1.map itL := by
    unfold wdL
    rw [ea, eo.1]
    refine splL_join (by decide) (by simpa using h.ne) fun q hq hc => ?_
    obtain ⟨o, _, rfl⟩ := List.mem_map.mp hq
    have := itL_sg hc
    omega
  have io : ∀ o ∈ p.2.1, itB (itL o) = true ∧ itD (itL o) = oiD o := fun o ho => it_ok fun n e => h.it n (e ▸ ho)
  have hle := h.le
  have lp := List.length_pos_iff.mpr h.ne
  have ev : valL (numL p.1) = p.1 := numL_val p.1
  refine ⟨?_, ?_⟩
  · unfold prB
    rw [eb, ew, ev, List.length_map, decide_eq_true h58, numOk_num (by omega), decide_eq_true hle]
    rw [Bool.true_and, Bool.true_and, Bool.and_true, List.all_map]
    exact List.all_eq_true.mpr fun o ho => (io o ho).1
  · unfold prD p3D
    rw [eb, ew, ev, ea, eo.2, List.map_map]
    rw [show p.2.1.map (itD ∘ itL) = p.2.1.map oiD from List.map_congr_left fun o ho => (io o ho).2]
/-! ### rows -/
def rowL (ps : List P3) : List Nat := if ps = [] then [45] else joinL [32] (ps.map pieL)
theorem row_mem {ps : List P3} (h : ps ≠ []) : 58 ∈ joinL [32] (ps.map pieL) := by
  cases ps with
  | nil => exact absurd rfl h
  | cons p r =>
    have h58 : 58 ∈ pieL p := by unfold pieL; simp
    cases r with
    | nil => exact h58
    | cons q r => exact List.mem_append_left _ h58
theorem row_spl {ps : List P3} (h : ps ≠ []) : rowL ps ≠ [45] ∧ splL 32 (rowL ps) = ps.map pieL := by
  unfold rowL
  rw [if_neg h]
  refine ⟨fun e => ?_, splL_join (by decide) (by simpa using h) fun q hq hc => ?_⟩
  · have := row_mem h
    rw [e] at this
    simp at this
  · obtain ⟨p, _, rfl⟩ := List.mem_map.mp hq
    have := pieL_sg hc
    omega
theorem rowL_ch {ps : List P3} : ChB (rowL ps) := fun c hc => by
  unfold rowL at hc
  split at hc
  · simp at hc
    omega
  · rcases mem_joinL hc with rfl | ⟨q, hq, h⟩
    · decide
    · obtain ⟨p, _, rfl⟩ := List.mem_map.mp hq
      exact pieL_ch c h
theorem dig_at {k : Nat} (h : k < 10) : atI (Str.ofString "0123456789").cps.toList (k : Int) = some (48 + k) := by
  have : (Str.ofString "0123456789").cps.toList[k]? = some (48 + k) := by
    have : k = 0 ∨ k = 1 ∨ k = 2 ∨ k = 3 ∨ k = 4 ∨ k = 5 ∨ k = 6 ∨ k = 7 ∨ k = 8 ∨ k = 9 := by omega
    rcases this with rfl | rfl | rfl | rfl | rfl | rfl | rfl | rfl | rfl | rfl <;> rfl
  exact atI_nat this
/-- the last sign of n's text and what stands before it -/
theorem numL_cut {n : Nat} : numL n = (if 10 ≤ n then numL (n / 10) else []) ++ [48 + n % 10] := by
  by_cases h : 10 ≤ n
  · rw [if_pos h]; exact numL_step h
  · rw [if_neg h, numL_lt (by omega), show n % 10 = n by omega]; rfl
theorem vals_join {vs : List (Option Nat)} : Txt.join (xS [44]) (vs.map fun o => xS (itL o)) = xS (valsL vs) := by
  have := join_xS (S := [44]) (ps := vs.map itL)
  rw [List.map_map] at this
  exact this
theorem it_tb {o : Option Nat} (h : ∀ n, o = some n → n ≤ 1000000) : TxB 7 (xS (itL o)) := by
  refine ⟨_, rfl, ?_, fun c hc => by have := itL_sg hc; omega⟩
  cases o with
  | none => decide
  | some n => exact numL_len (by decide) (by have := h n rfl; omega)
theorem pie_join {ps : List P3} (h : ps ≠ []) : Txt.join (xS [32]) (ps.map fun p => xS (pieL p)) = xS (rowL ps) := by
  unfold rowL
  rw [if_neg h]
  have := join_xS (S := [32]) (ps := ps.map pieL)
  rw [List.map_map] at this
  exact this
theorem pie_tb {p : P3} (h : (pieL p).length ≤ 100) : TxB 100 (xS (pieL p)) := ⟨_, rfl, h, pieL_ch⟩
theorem valsL_snoc {vs : List (Option Nat)} {o : Option Nat} : valsL (vs ++ [o]) = valsL vs ++ ((if vs.length > 0 then [44] else []) ++ itL o) := by
  unfold valsL
  cases vs with
  | nil => rfl
  | cons a vs =>
    rw [List.map_append, List.map_cons (l := []), List.map_nil, joinL_snoc (by simp)]
    simp
theorem valsL_le {vs : List (Option Nat)} (h : ∀ n, some n ∈ vs → n ≤ 1000000) : (valsL vs).length ≤ vs.length * 8 := by
  have := joinL_le (s := 44) (n := 7) (ps := vs.map itL) fun p hp => by
    obtain ⟨o, ho, rfl⟩ := List.mem_map.mp hp
    have := (it_tb (o := o) fun n e => h n (e ▸ ho)).len
    rwa [len_xS] at this
  rw [List.length_map] at this
  exact this
theorem pieL_le {p : P3} (h : P3Ok p) : (pieL p).length ≤ 6 + p.2.1.length * 8 := by
  have h1 := valsL_le h.it
  have h2 := h.le
  have h3 := List.length_pos_iff.mpr h.ne
  have h4 : (numL p.1).length ≤ 4 := numL_len (by decide) (by omega)
  unfold pieL bangL
  rw [List.length_append, List.length_cons, List.length_append]
  split <;> simp <;> omega
theorem row_snoc {ps : List P3} {p : P3} : rowL (ps ++ [p]) = if ps.length = 0 then pieL p else rowL ps ++ (32 :: pieL p) := by
  unfold rowL
  rw [if_neg (by simp)]
  by_cases h : ps = []
  · subst h
    rfl
  · have hl : ¬ ps.length = 0 := fun e => h (List.length_eq_zero_iff.mp e)
    rw [if_neg hl, if_neg h, List.map_append, List.map_cons, List.map_nil, joinL_snoc (by simpa using h)]
    rfl
theorem rowL_le {ps : List P3} (h : ∀ p ∈ ps, (pieL p).length ≤ 100) : (rowL ps).length ≤ 1 + ps.length * 101 := by
  unfold rowL
  split
  · simp
  · have := joinL_le (s := 32) (n := 100) (ps := ps.map pieL) fun q hq => by
      obtain ⟨p, hp, rfl⟩ := List.mem_map.mp hq
      exact h p hp
    rw [List.length_map] at this
    omega
end L3
/-! L3St: x[c].append(e), e an int that is only read -/
namespace L3
open PySem PySem.Spec PyProof.Rows L2
section
variable {X : Cx} {pa : List V} {pos p1 p2 p3 p4 p5 p6 : Pos} {a e : Expr} {x : Str} {i : Nat}
@[simp] def zApp0 (i c : Nat) (q : List S → Option Int) : SS := fun k Γ _ => ∃ n j ts ds, q Γ = some n ∧ Γ[i]? = some (.o j (.ll ts)) ∧ ts[c]? = some (.ls ds) ∧ ds.length < sizeLine ∧ k.nx (Γ.set i (.o j (.ll (ts.set c (.ls (ds ++ [.int n]))))))
theorem sj_app0 (hp : PE X (.Name x p1) (tVar i)) {c : Nat} {j} {q : List S → Option Int} (hq : QJ X pa a q)
    (hline : (p4.endLine == p6.line) = true := by rfl)
    (hbase : attributeBase (.Subscript (.Name x p1) (.Constant (.int (c : Int)) j p2) p3) "append" X.env (eval (.Subscript (.Name x p1) (.Constant (.int (c : Int)) j p2) p3) X.env) = eval (.Subscript (.Name x p1) (.Constant (.int (c : Int)) j p2) p3) X.env := by rfl)
    (hfew : ((backTo p6 (starEach [a] X.env)).all (fun x => !x.1) && (backToKw p6 (keywordEach [] X.env)).all (fun x => x.1.isSome)
      && decide (([a] : List Expr).length + ([] : List Keyword).length + (if ([] : List Keyword).isEmpty then 0 else 1) < 30)) = true := by rfl)
    (hse : starEach [a] X.env = (false, eval a X.env) :: starEach [] X.env := by rfl)
    (hs : swapsWith (.Call (.Attribute (.Subscript (.Name x p1) (.Constant (.int (c : Int)) j p2) p3) "append" p4) [a] [] p6) none pos.line X.env = pure false := by rfl) :
    SJ X pa (.Expr (.Call (.Attribute (.Subscript (.Name x p1) (.Constant (.int (c : Int)) j p2) p3) "append" p4) [a] [] p6) pos) (zApp0 i c q) := ⟨fun W tk =>
  PS.imp (ps_expr (pe_bm PySem.F.plainAttrs_list PySem.F.slot_list_append PySem.F.type_list_append mt_append (pe_at hp) (pa_cons hq.run pa_nil hse) hbase hfew hline hse) hs) fun D σ H ⟨F, Γ, R, Ex, k, o, xl, ⟨m, j, ts, ds, eq, e1, e2, hsz, h1⟩, n, _⟩ => by
    obtain ⟨a0, vs, rr, ev, ha, ow, hn, hR⟩ := o.ll e1
    obtain ⟨b, ws, h3, h4, h5, h6, h7⟩ := ow.inner e2
    have nab : a0 ≠ b := fun z => hn (z ▸ h6)
    refine ⟨_, ev, _, _, _, _, rfl, rfl, SqL.of ha, atI_nat h3, .inl ⟨rfl, _, SqL.of h4⟩, F, Γ, R, m, o, eq, b, ws, .int m, rfl, rfl, h4, by rw [h5.length]; exact hsz, ?_⟩
    obtain ⟨o3, s3⟩ := o.updI (x := .lst (ws ++ [V.int m])) (p := b) (t' := .ll (ts.set c (.ls (ds ++ [.int m])))) e1 ev (by rw [hR]; exact List.mem_cons_of_mem _ h6) (by
      rw [hR]
      exact .ll (by rw [upd_ne nab]; exact ha) (h7 _ _ (h5.snoc (.int m))) hn)
    exact n _ h1 _ _ _ _ o3 s3⟩
end
end L3
/-! L3Dc: a value and a thing that is owned, stored at once; dicts that change -/
namespace L3
open PySem PySem.Spec PyProof.Rows L2
section
variable {K : PySem.W.Frag} {pa : List V} {F H F' H' : Hp} {σ : Sg} {Γ : List S} {R R' : Nat → List Addr}
theorem Res.setV {i : Nat} {v : V} {t : O} {r : List Addr} (x : Res K F H R v t r) : Res K F H (fun j => if j = i then [] else R j) v t r := ⟨x.own, fun l a h hl => by
  split at hl
  · cases hl
  · exact x.dj l a h hl, x.fr⟩
end
section
variable {X : Cx} {pa : List V} {pos p1 p2 p3 p4 p5 p6 px py pt pt2 pos' : Pos} {a b e : Expr} {x y : Str} {i j : Nat} {ga : SA} {f : SE}
/-! x, y = a, b: x a value, y a thing of its own -/
@[simp] def zVO (i j : Nat) (ga : SA) (f : SE) : SS := fun k Γ Ex => ga Γ (fun ar Γ1 => argV Γ1 ar fun d => f Γ1 (fun t Γ2 => k.nx ((Γ2.set i (.v d)).set j (.o none t))) Ex) Ex
theorem sj_parVO {kt k2 : Nat} (hc : X.calm = true) (hN : X.N.Nodup) (hi : X.N[i]? = some x) (hj : X.N[j]? = some y) (hij : i ≠ j) (hx : X.env.scope.names.lookup x = some .local) (hy : X.env.scope.names.lookup y = some .local) (ha : AJ X pa a ga) (hf : EJ X pa b f)
    (hw : swappedStores [.Tuple [.Name x px, .Name y py] kt pt] (.Tuple [a, b] k2 pt2) X.env = pure (some [x, y])) (hse : starEach [a, b] X.env = (false, eval a X.env) :: starEach [b] X.env := by rfl) (hse2 : starEach [b] X.env = (false, eval b X.env) :: starEach [] X.env := by rfl) (hs : swapsWithSole [.Tuple [.Name x px, .Name y py] kt pt] (.Tuple [a, b] k2 pt2) pos.line X.env = pure false := by rfl) :
    SJ X pa (.Assign [.Tuple [.Name x px, .Name y py] kt pt] (.Tuple [a, b] k2 pt2) pos) (zVO i j ga f) := ⟨fun W tk =>
  PS.imp (ps_par hc hN hi hj hij hx hy (pa_cons (ha.run W tk) (pa_cons (hf.run W tk) pa_nil hse2) hse) hw hs) fun D σ H ⟨F, Γ, R, Ex, k, o, xl, q, n, _⟩ =>
  ⟨F, Γ, R, Ex, _, o, xl σ, q, fun ar Γ1 h1 v1 F1 H1 R1 o1 s1 a1 => by
    obtain ⟨d, rp, h2⟩ := argV_ok o1 a1 h1
    refine ⟨F1, Γ1, R1, Ex, _, o1, (xl σ).step s1, h2, fun t Γ2 h3 v2 F2 H2 R2 r2 o2 s2 x2 => ?_⟩
    refine ⟨v1, v2, rfl, ?_⟩
    have o4 := o2.setV (i := i) (Rp.mono s2.sub _ _ rp)
    have o5 := o4.setO (i := j) x2.setV
    have s12 := s1.trans s2
    have sB : Stp F H R F2 H2 (fun l => if l = j then r2 else (fun l => if l = i then [] else R2 l) l) [] := ((s12.noR.setV (i := i)).withR (r' := r2) s12.r1).setO
    exact n _ h3 _ F2 H2 _ o5 sB⟩⟩
theorem sj_tupVO {kt : Nat} {k2} (hc : X.calm = true) (hi : PG X (.Name x px) (gName i)) (hj : PG X (.Name y py) (gName j)) (ha : AJ X pa a ga) (hf : EJ X pa b f)
    (hse : starEach [a, b] X.env = (false, eval a X.env) :: starEach [b] X.env := by rfl) (hse2 : starEach [b] X.env = (false, eval b X.env) :: starEach [] X.env := by rfl)
    (hs : swapsWithSole [.Tuple [.Name x px, .Name y py] kt pt] (.Tuple [a, b] k2 pt2) pos.line X.env = pure false := by rfl) (hw : swappedStores [.Tuple [.Name x px, .Name y py] kt pt] (.Tuple [a, b] k2 pt2) X.env = pure none := by rfl)
    (h1 : (assignEach [.Tuple [.Name x px, .Name y py] kt pt] X.env).map (·.2) = [assign (.Tuple [.Name x px, .Name y py] kt pt) X.env] := by rfl)
    (hn : (assignEach [.Name x px, .Name y py] X.env).length = 2 := by rfl) (hst : (assignEach [.Name x px, .Name y py] X.env).findIdx? (·.1) = none := by rfl)
    (g1 : (assignEach [.Name x px, .Name y py] X.env).map (·.2) = assign (.Name x px) X.env :: (assignEach [.Name y py] X.env).map (·.2) := by rfl)
    (g2 : (assignEach [.Name y py] X.env).map (·.2) = assign (.Name y py) X.env :: (assignEach [] X.env).map (·.2) := by rfl) :
    SJ X pa (.Assign [.Tuple [.Name x px, .Name y py] kt pt] (.Tuple [a, b] k2 pt2) pos) (zVO i j ga f) := ⟨fun W tk =>
  PS.imp (ps_asg (pe_tup (pa_cons (ha.run W tk) (pa_cons (hf.run W tk) pa_nil hse2) hse)) (pg_tup hc (pgs_cons hi (pgs_cons hj pgs_nil g2) g1) hn hst) hs hw h1) fun D σ H ⟨F, Γ, R, Ex, k, o, xl, q, n, _⟩ =>
  ⟨F, Γ, R, Ex, _, o, xl σ, q, fun ar Γ1 h1 v1 F1 H1 R1 o1 s1 a1 => by
    obtain ⟨d, rp, h2⟩ := argV_ok o1 a1 h1
    refine ⟨F1, Γ1, R1, Ex, _, o1, (xl σ).step s1, h2, fun t Γ2 h3 v2 F2 H2 R2 r2 o2 s2 x2 => ?_⟩
    refine ⟨by rw [sizeLine_eq]; show 2 ≤ _; decide, fun p hp => ⟨p, [v1, v2], rfl, .inl (.inl upd_same), rfl, v1, [v2], rfl, v2, [], rfl, rfl, ?_⟩⟩
    obtain ⟨o3, s3, sb⟩ := o2.newF (x := .tup [v1, v2]) hp
    have x3 := x2.keep s3
    have o4 := o3.setV (i := i) (Rp.mono (fun a y h => sb _ _ (s2.sub _ _ h)) _ _ rp)
    have o5 := o4.setO (i := j) x3.setV
    have s12 := s1.trans s2
    have s13 := s12.trans s3
    have sB : Stp F H R (upd F2 p (.tup [v1, v2])) (upd H2 p (.tup [v1, v2])) (fun l => if l = j then r2 else (fun l => if l = i then [] else R2 l) l) [] := ((s13.setV (i := i)).withR (r' := r2) s12.r1).setO
    exact n _ h3 _ _ _ _ o5 sB⟩⟩
end
/-! ### dicts that change -/
def keyD : Key → D
  | .inl i => .int i
  | .inr s => .str s
section
variable {K : PySem.W.Frag} {pa : List V} {F H : Hp} {σ : Sg} {Γ : List S} {R : Nat → List Addr}
theorem bp_key {v : V} {k : Key} (b : Bp K F H v (keyD k)) : v = kV k := by
  cases k with
  | inl i => exact b.int
  | inr s => exact b.str
theorem OkF.dc {i : Nat} {j : Option Nat} {ks : List Key} {ts : List O} (o : OkF K pa F H σ Γ R) (e : Γ[i]? = some (.o j (.dc ks ts))) :
    ∃ a kvs r, σ[i]? = some (some (.ref a)) ∧ H a = some (.dK kvs) ∧ kvs.map (·.1) = ks ∧ ks.Nodup ∧ Owns K F H (kvs.map (·.2)) ts r ∧ a ∉ r ∧ R i = a :: r := by
  obtain ⟨v, ev, ow, _⟩ := o.sl i _ e
  generalize hr : R i = ri at ow
  cases ow with
  | dc q1 q2 q3 q4 q5 => exact ⟨_, _, _, ev, q1, q2, q3, q4, q5, rfl⟩
def ixK (ks : List Key) (k : Key) : Option Nat := ks.findIdx? fun x => decide (x = k)
theorem ixK_some {ks : List Key} {k : Key} {n : Nat} (h : ixK ks k = some n) : ks[n]? = some k := by
  unfold ixK at h
  obtain ⟨hn, h1, _⟩ := List.findIdx?_eq_some_iff_getElem.mp h
  rw [List.getElem?_eq_getElem hn, of_decide_eq_true h1]
theorem ixK_none {ks : List Key} {k : Key} (h : ixK ks k = none) : k ∉ ks := fun hm => by
  unfold ixK at h
  have := List.findIdx?_eq_none_iff.mp h k hm
  simp at this
theorem valV_no {k : Key} : ∀ {kvs : List (Key × V)}, k ∉ kvs.map (·.1) → valV kvs k = none
  | [], _ => rfl
  | p :: r, h => by
    rw [valV_neg (fun e => h (by rw [List.map_cons, e]; exact List.mem_cons_self)), valV_no fun z => h (by rw [List.map_cons]; exact List.mem_cons_of_mem _ z)]
theorem valV_in {k : Key} : ∀ {kvs : List (Key × V)} {n : Nat} {v : V}, (kvs.map (·.1)).Nodup → (kvs.map (·.1))[n]? = some k → (kvs.map (·.2))[n]? = some v → valV kvs k = some v
  | [], _, _, _, h, _ => by simp at h
  | p :: r, 0, v, _, h1, h2 => by
    simp at h1 h2
    rw [valV_pos h1, h2]
  | p :: r, n + 1, v, nd, h1, h2 => by
    rw [List.map_cons, List.nodup_cons] at nd
    simp only [List.map_cons, List.getElem?_cons_succ] at h1 h2
    rw [valV_neg fun e => nd.1 (by rw [e]; exact List.mem_of_getElem? h1)]
    exact valV_in nd.2 h1 h2
theorem putK_set {k : Key} {v : V} : ∀ {kvs : List (Key × V)} {n : Nat}, (kvs.map (·.1)).Nodup → (kvs.map (·.1))[n]? = some k →
    (kvs.map (fun kv => if kv.1 = k then (kv.1, v) else kv)).map (·.1) = kvs.map (·.1) ∧ (kvs.map (fun kv => if kv.1 = k then (kv.1, v) else kv)).map (·.2) = (kvs.map (·.2)).set n v
  | [], _, _, h => by simp at h
  | p :: r, 0, nd, h => by
    rw [List.map_cons, List.nodup_cons] at nd
    have hk : p.1 = k := by simpa using h
    have no : ∀ kv ∈ r, ¬ kv.1 = k := fun kv hkv e => nd.1 (by rw [hk, ← e]; exact List.mem_map.mpr ⟨kv, hkv, rfl⟩)
    have er : r.map (fun kv => if kv.1 = k then (kv.1, v) else kv) = r := by
      conv => rhs; rw [← List.map_id r]
      exact List.map_congr_left fun kv hkv => by rw [if_neg (no kv hkv)]; rfl
    rw [List.map_cons, if_pos hk, er]
    exact ⟨rfl, rfl⟩
  | p :: r, n + 1, nd, h => by
    rw [List.map_cons, List.nodup_cons] at nd
    simp only [List.map_cons, List.getElem?_cons_succ] at h
    have hk : ¬ p.1 = k := fun e => nd.1 (by rw [e]; exact List.mem_of_getElem? h)
    obtain ⟨i1, i2⟩ := putK_set (v := v) nd.2 h
    rw [List.map_cons, if_neg hk, List.map_cons, List.map_cons, List.map_cons, List.map_cons, i1, i2]
    exact ⟨rfl, rfl⟩
end
section
variable {X : Cx} {pa : List V} {pos p p1 p2 p3 p4 p5 p6 px py pt pt2 pos' : Pos} {a b e tg iter kx vx : Expr} {x y : Str} {i j : Nat} {ga gb : SA} {f : SE}
/-- k in d, d a dict of the name's own -/
@[simp] def cKin (neg : Bool) (ga : SA) (i : Nat) : ST := fun Γ κ Ex => ga Γ (fun a Γ1 => rdK Γ1 a fun d => ∃ k j ks ts, d = keyD k ∧ Γ1[i]? = some (.o j (.dc ks ts)) ∧ κ (if neg = true then !(ixK ks k).isSome else (ixK ks k).isSome) Γ1) Ex
theorem valV_mem {k : Key} {kvs : List (Key × V)} {ks : List Key} (e : kvs.map (·.1) = ks) (nd : ks.Nodup) : (valV kvs k).isSome = (ixK ks k).isSome := by
  cases h : ixK ks k with
  | some n =>
    have hn := ixK_some h
    subst e
    have hl : n < kvs.length := by have := (List.getElem?_eq_some_iff.mp hn).1; rwa [List.length_map] at this
    rw [valV_in nd hn (v := kvs[n].2) (by rw [List.getElem?_map, List.getElem?_eq_getElem hl]; rfl)]
    rfl
  | none =>
    have hn := ixK_none h
    subst e
    rw [valV_no hn]
    rfl
theorem tj_kin (hu : X.A.units + 1 < cLine) (hp : PE X (.Name x p1) (tVar i)) (ha : AJ X pa a ga) (h1 : behindInMarks .In (.Name x p1) = false := by first | exact nobehind _ (by decide) (by decide) | rfl) : TJ X pa (.Compare a [.In] [.Name x p1] pos) (cKin false ga i) := ⟨fun W tk =>
  PT.imp (pt_cmp (pc_din hu (ha.run W tk) hp) h1) fun σ H Q ⟨F, Γ, R, Ex, Kc, o, xl, q, k⟩ => ⟨F, Γ, R, Ex, _, o, xl, q, fun ar Γ1 h1 v F1 H1 R1 o1 s1 a1 => by
    obtain ⟨d, b, k0, j, ks, ts, rfl, e1, h2⟩ := rdK_ok o1 a1 h1
    have ev0 := bp_key b
    subst ev0
    obtain ⟨a0, kvs, r, ev, ha0, hk, nd, ow, hn, hR⟩ := o1.dc e1
    exact ⟨_, ev, a0, _, rfl, DGet.k ha0, _, rfl, by rw [valV_mem hk nd]; exact k _ _ h2 F1 H1 R1 o1 s1⟩⟩⟩
theorem tj_knot (hu : X.A.units + 1 < cLine) (hp : PE X (.Name x p1) (tVar i)) (ha : AJ X pa a ga) (h1 : behindInMarks .NotIn (.Name x p1) = false := by first | exact nobehind _ (by decide) (by decide) | rfl) : TJ X pa (.Compare a [.NotIn] [.Name x p1] pos) (cKin true ga i) := ⟨fun W tk =>
  PT.imp (pt_cmp (pc_dnotin hu (ha.run W tk) hp) h1) fun σ H Q ⟨F, Γ, R, Ex, Kc, o, xl, q, k⟩ => ⟨F, Γ, R, Ex, _, o, xl, q, fun ar Γ1 h1 v F1 H1 R1 o1 s1 a1 => by
    obtain ⟨d, b, k0, j, ks, ts, rfl, e1, h2⟩ := rdK_ok o1 a1 h1
    have ev0 := bp_key b
    subst ev0
    obtain ⟨a0, kvs, r, ev, ha0, hk, nd, ow, hn, hR⟩ := o1.dc e1
    exact ⟨_, ev, a0, _, rfl, DGet.k ha0, _, rfl, by rw [valV_mem hk nd]; exact k _ _ h2 F1 H1 R1 o1 s1⟩⟩⟩
/-- {} -/
@[simp] def sDc0 : SE := fun Γ κ _ => κ (.dc [] []) Γ
theorem fin_dc0 {K : PySem.W.Frag} {F H : Hp} {σ : Sg} {Γ : List S} {R : Nat → List Addr} {p : Addr} {P : O → Prop} (o : OkF K pa F H σ Γ R) (n : H p = none) (h : P (.dc [] [])) : Fin K pa F H σ Γ R P (.ref p) (upd H p (.dK [])) := by
  obtain ⟨o', s'⟩ := o.newH (x := .dK []) n
  refine ⟨_, _, R, [p], o', s', ⟨.dc upd_same rfl List.nodup_nil .nil (by simp), fun i a ha hi => ?_, fun a ha => ?_⟩, h⟩
  · have e : a = p := by simpa using ha
    subst e; exact o.hs i a hi n
  · have e : a = p := by simpa using ha
    subst e; exact o.sub.none n
theorem ej_dc0 : EJ X pa (.Dict [] [] pos) sDc0 := ⟨fun W tk => PE.imp pe_dnewK fun σ H Q ⟨F, Γ, R, Ex, Kc, o, xl, q, kk⟩ p hp => by
  obtain ⟨t, F', R', r', o', s', x', pp⟩ := fin_dc0 (P := fun t => Kc t Γ) o hp q
  exact kk _ _ pp _ F' _ R' r' o' s' x'⟩
/-- d[k], its value no thing of its own -/
@[simp] def sKget (i : Nat) (ga : SA) : SE := fun Γ κ Ex => (∃ (j : Option Nat) (ks : List Key) (ts : List O), Γ[i]? = some (.o j (.dc ks ts))) ∧ ga Γ (fun a Γ1 => rdK Γ1 a fun d => ∃ (k : Key) (n : Nat) (j : Option Nat) (ks : List Key) (ts : List O) (dv : D), d = keyD k ∧ Γ1[i]? = some (.o j (.dc ks ts)) ∧ ks[n]? = some k ∧ ts[n]? = some (O.leaf dv) ∧ κ (O.leaf dv) Γ1) Ex
theorem ej_kget (hu : X.A.units + 1 < cLine) (hp : PE X (.Name x p1) (tVar i)) (ha : AJ X pa a ga) (hs : NoSl a) : EJ X pa (.Subscript (.Name x p1) a pos) (sKget i ga) := ⟨fun W tk =>
  PE.imp (pe_dget hu hp (ha.run W tk) hs) fun σ H Q ⟨F, Γ, R, Ex, Kc, o, xl, ⟨⟨j0, ks0, ts0, e0⟩, q⟩, k⟩ => by
    obtain ⟨a0, kvs0, r0, ev0, _⟩ := o.dc e0
    refine ⟨_, ev0, F, Γ, R, Ex, _, o, xl, q, fun ar Γ1 h1 v F1 H1 R1 o1 s1 a1 => ?_⟩
    obtain ⟨d, b, k0, n, j, ks, ts, dv, rfl, e1, hk, ht, h2⟩ := rdK_ok o1 a1 h1
    have evk := bp_key b
    subst evk
    obtain ⟨a1', kvs, r, ev, ha1, hkk, nd, ow, hn, hR⟩ := o1.dc e1
    rw [ev0] at ev
    cases ev
    obtain ⟨vv, r', hv, own, _⟩ := ow.get ht
    cases own with
    | leaf rp =>
      refine ⟨a0, vv, rfl, ?_, k _ _ h2 vv F1 H1 R1 [] o1 s1 (.leaf rp)⟩
      have := valV_in (k := k0) (by rw [hkk]; exact nd) (by rw [hkk]; exact hk) hv
      rw [← this]
      exact DGet.k ha1⟩
/-- d[k] = e, what stood there no thing of its own -/
@[simp] def zKput (i : Nat) (ga : SA) (f : SE) : SS := fun k Γ Ex => f Γ (fun t Γ1 => (∃ j ks ts, Γ1[i]? = some (.o j (.dc ks ts))) ∧ ga Γ1 (fun a Γ2 => rdK Γ2 a fun d => ∃ kk j ks ts, d = keyD kk ∧ Γ2[i]? = some (.o j (.dc ks ts)) ∧ ks.length < sizeLine ∧ match ixK ks kk with
  | some n => ∃ d0, ts[n]? = some (.leaf d0) ∧ k.nx (Γ2.set i (.o j (.dc ks (ts.set n (.leaf t.fz)))))
  | none => k.nx (Γ2.set i (.o j (.dc (ks ++ [kk]) (ts ++ [.leaf t.fz]))))) Ex) Ex
theorem sj_kput (hu : X.A.units + 1 < cLine) (hp : PE X (.Name x p1) (tVar i)) (ha : AJ X pa a ga) (hf : EJ X pa e f) (hs : swapsWith e (some (.Subscript (.Name x p1) a pos')) pos.line X.env = pure false := by rfl) :
    SJ X pa (.Assign [.Subscript (.Name x p1) a pos'] e pos) (zKput i ga f) := ⟨fun W tk => PS.imp (ps_dput hu hp (ha.run W tk) (hf.run W tk) hs) fun D σ H ⟨F, Γ, R, Ex, k, o, xl, q, n, _⟩ =>
  ⟨F, Γ, R, Ex, _, o, xl σ, q, fun t Γ1 ⟨⟨j0, ks0, ts0, e0⟩, h1⟩ v F' H' R' r o' s' x' => by
    have o2 := x'.freezeOk o'
    have r2 := x'.freezeRp
    have s2 := x'.freezeStp s'
    obtain ⟨a0, kvs0, r0, ev0, _⟩ := o2.dc e0
    refine ⟨_, ev0, _, Γ1, _, Ex, _, o2, (xl σ).step s2, h1, fun ar Γ2 h2 vk F3 H3 R3 o3 s3 a3 => ?_⟩
    obtain ⟨d, b, kk, j, ks, ts, rfl, e1, hsz, h3⟩ := rdK_ok o3 a3 h2
    have evk := bp_key b
    subst evk
    obtain ⟨a1', kvs, r, ev, ha1, hkk, nd, ow, hn, hR⟩ := o3.dc e1
    rw [ev0] at ev
    cases ev
    have r3 := Rp.mono s3.sub _ _ r2
    have hl : kvs.length < sizeLine := by rw [← hkk, List.length_map] at hsz; exact hsz
    refine ⟨a0, _, rfl, DPut.k (k := kk) (v := v) ha1 hl, ?_⟩
    cases hix : ixK ks kk with
    | some m =>
      rw [hix] at h3
      obtain ⟨d0, ht, h4⟩ := h3
      have hm := ixK_some hix
      rw [← hkk] at hm
      obtain ⟨p1', p2'⟩ := putK_set (v := v) (hkk ▸ nd) hm
      have ep : putK kvs kk v = kvs.map (fun kv => if kv.1 = kk then (kv.1, v) else kv) := by
        unfold putK
        rw [if_pos]
        rw [valV_any, valV_mem hkk nd, hix]
        rfl
      rw [ep]
      obtain ⟨o4, s4⟩ := o3.updI (x := .dK (kvs.map (fun kv => if kv.1 = kk then (kv.1, v) else kv))) (p := a0) (t' := .dc ks (ts.set m (.leaf t.fz))) e1 ev0 (by rw [hR]; exact List.mem_cons_self) (by
        rw [hR]
        refine .dc upd_same (by rw [p1', hkk]) nd ?_ hn
        rw [p2']
        exact (ow.setLeaf ht r3).mono .refl _ _ _ fun b hb => upd_ne fun z => hn (z ▸ hb))
      exact n _ h4 _ _ _ _ o4 ((s2.trans s3).trans s4)
    | none =>
      rw [hix] at h3
      have hno := ixK_none hix
      have ep : putK kvs kk v = kvs ++ [(kk, v)] := putK_new v (valV_no (by rw [hkk]; exact hno))
      rw [ep]
      obtain ⟨o4, s4⟩ := o3.updI (x := .dK (kvs ++ [(kk, v)])) (p := a0) (t' := .dc (ks ++ [kk]) (ts ++ [.leaf t.fz])) e1 ev0 (by rw [hR]; exact List.mem_cons_self) (by
        rw [hR]
        have ow2 := ow.mono .refl _ _ _ fun b hb => (upd_ne fun z => hn (z ▸ hb) : upd H3 a0 (.dK (kvs ++ [(kk, v)])) b = H3 b)
        have ow3 := Owns.snoc (.leaf r3) ow2 fun _ _ => by simp
        rw [List.append_nil] at ow3
        refine .dc upd_same (by rw [List.map_append, hkk]; rfl) (List.nodup_append.mpr ⟨nd, by simp, fun a ha b hb => ?_⟩) (by rw [List.map_append]; exact ow3) hn
        intro e
        have : b = kk := by simpa using hb
        exact hno (this ▸ e ▸ ha))
      exact n _ h3 _ _ _ _ o4 ((s2.trans s3).trans s4)⟩⟩
/-- list(d): its keys -/
theorem rp_keys {K : PySem.W.Frag} {F : Hp} : ∀ {kvs : List (Key × V)}, RpAll K F (kvs.map fun kv => kV kv.1) ((kvs.map (·.1)).map keyD)
  | [] => .nil
  | (.inl i, _) :: r => .cons (.int i) rp_keys
  | (.inr z, _) :: r => .cons (.str z) rp_keys
@[simp] def sKeysL (i : Nat) : SE := fun Γ κ _ => ∃ j ks ts, Γ[i]? = some (.o j (.dc ks ts)) ∧ κ (.ls (ks.map keyD)) Γ
theorem ej_keysL (hc : X.calm = true) (hp : PE X (.Name x p1) (tVar i)) (hg : Gl X "list") (hm : X.mg "list" = none) (hse : starEach [.Name x p1] X.env = (false, eval (.Name x p1) X.env) :: starEach [] X.env := by rfl) (hpl : (backTo pos (starEach [] X.env)).any (·.1) = false := by rfl) :
    EJ X pa (.Call (.Name "list" p) [.Name x p1] [] pos) (sKeysL i) := ⟨fun W tk =>
  PE.imp (pe_callTy (call_listD hc) hg hm rfl (pa_cons hp pa_nil hse) (by decide) (by decide) hse hpl) fun σ H Q ⟨F, Γ, R, Ex, Kc, o, xl, ⟨j, ks, ts, e0, h⟩, k⟩ => by
    obtain ⟨a0, kvs, r, ev, ha0, hk, nd, ow, hn, hR⟩ := o.dc e0
    refine ⟨_, ev, a0, kvs, rfl, .of ha0, fun p hp => ?_⟩
    obtain ⟨t, F', R', r', o', s', x', pp⟩ := fin_ls (P := fun t => Kc t Γ) (ds := ks.map keyD) o hp (by rw [← hk]; exact rp_keys) h
    exact k _ _ pp _ F' _ R' r' o' s' x'⟩
/-- what a dict that stands holds -/
theorem RpKv.look {K : PySem.W.Frag} {F : Hp} {vs : List (Key × V)} {ds : List (Key × D)} {k : Key} (h : RpKv K F vs ds) : match lookD ds k with
    | some d => ∃ v, valV vs k = some v ∧ Rp K F v d
    | none => valV vs k = none := by
  cases e : lookD ds k with
  | some d => exact h.val e
  | none =>
    show valV vs k = none
    have : (vs.any fun kv => decide (kv.1 = k)) = false := h.none_any fun p hp hpk => by
      unfold lookD at e
      rw [Option.map_eq_none_iff, List.find?_eq_none] at e
      exact e p hp (by simpa using hpk)
    rw [valV_any] at this
    cases hv : valV vs k with
    | none => rfl
    | some v => rw [hv] at this; cases this
def DicAt (Γ : List S) (i : Nat) (kvs : List (Key × D)) : Prop := Γ[i]? = some (.v (.dic kvs)) ∨ Γ[i]? = some (.v (.dil kvs))
theorem OkF.dicAt {K : PySem.W.Frag} {F H : Hp} {σ : Sg} {Γ : List S} {R : Nat → List Addr} {i : Nat} {kds : List (Key × D)} (o : OkF K pa F H σ Γ R) (h : DicAt Γ i kds) : ∃ a kvs, σ[i]? = some (some (.ref a)) ∧ Rd F a (.dK kvs) ∧ RpKv K F kvs kds := by
  rcases h with h | h
  · obtain ⟨_, v, ev, rp⟩ := o.sl i _ h
    cases rp with
    | dic q r => exact ⟨_, _, ev, q, r⟩
  · obtain ⟨_, v, ev, rp⟩ := o.sl i _ h
    cases rp with
    | dil q r => exact ⟨_, _, ev, .inr ⟨_, q⟩, r⟩
/-- d.get(k), d[k], d.get(k, []) of a dict that stands -/
@[simp] def sFget1 (i : Nat) (ga : SA) : SE := fun Γ κ Ex => ∃ kvs, DicAt Γ i kvs ∧ ga Γ (fun a Γ1 => rdK Γ1 a fun d => ∃ k, d = keyD k ∧ κ (O.leaf ((lookD kvs k).getD .non)) Γ1) Ex
theorem ej_fget1 (hu : X.A.units + 1 < cLine) (hp : PE X (.Name x p1) (tVar i)) (ha : AJ X pa a ga) (m : M1 X (.Name x p1) "get" p2 a pos := by exact ⟨by rfl, by rfl, by rfl, by rfl⟩) : EJ X pa (.Call (.Attribute (.Name x p1) "get" p2) [a] [] pos) (sFget1 i ga) := ⟨fun W tk =>
  PE.imp (pe_dget1 hu hp (ha.run W tk) m) fun σ H Q ⟨F, Γ, R, Ex, Kc, o, xl, ⟨kds, e0, q⟩, k⟩ => by
    obtain ⟨a0, kvs, ev, hd, rk⟩ := o.dicAt e0
    refine ⟨_, ev, a0, rfl, .inl ⟨_, o.sub.rd hd⟩, F, Γ, R, Ex, _, o, xl, q, fun ar Γ1 h1 v F1 H1 R1 o1 s1 a1 => ?_⟩
    obtain ⟨d, b, k0, rfl, h2⟩ := rdK_ok o1 a1 h1
    have evk := bp_key b
    subst evk
    refine ⟨_, .inl ⟨kvs, k0, o1.sub.rd (s1.sub.rd hd), rfl, rfl⟩, ?_⟩
    have lk := rk.look (k := k0)
    cases e : lookD kds k0 with
    | some d =>
      rw [e] at lk h2
      obtain ⟨v, ev, rp⟩ := lk
      rw [ev]
      exact k _ _ h2 v F1 H1 R1 [] o1 s1 (.leaf (Rp.mono s1.sub _ _ rp))
    | none =>
      rw [e] at lk h2
      have lk : valV kvs k0 = none := lk
      rw [lk]
      exact k _ _ h2 .non F1 H1 R1 [] o1 s1 (.leaf .non)⟩
@[simp] def sFget2 (i : Nat) (ga : SA) : SE := fun Γ κ Ex => ∃ kvs, DicAt Γ i kvs ∧ ga Γ (fun a Γ1 => rdK Γ1 a fun d => ∃ k, d = keyD k ∧ κ (O.leaf ((lookD kvs k).getD (.lst []))) Γ1) Ex
theorem ej_fget2 (hu : X.A.units + 1 < cLine) (hp : PE X (.Name x p1) (tVar i)) (ha : AJ X pa a ga) (m : M2 X (.Name x p1) "get" p2 a (.List [] p3) pos := by exact ⟨by rfl, by rfl, by rfl, by rfl⟩) : EJ X pa (.Call (.Attribute (.Name x p1) "get" p2) [a, .List [] p3] [] pos) (sFget2 i ga) := ⟨fun W tk =>
  PE.imp (pe_dget2 hu hp (ha.run W tk) (pe_lst pa_nil) m) fun σ H Q ⟨F, Γ, R, Ex, Kc, o, xl, ⟨kds, e0, q⟩, k⟩ => by
    obtain ⟨a0, kvs, ev, hd, rk⟩ := o.dicAt e0
    refine ⟨_, ev, a0, rfl, .inl ⟨_, o.sub.rd hd⟩, F, Γ, R, Ex, _, o, xl, q, fun ar Γ1 h1 v F1 H1 R1 o1 s1 a1 => ?_⟩
    obtain ⟨d, b, k0, rfl, h2⟩ := rdK_ok o1 a1 h1
    have evk := bp_key b
    subst evk
    refine ⟨Nat.zero_le _, fun pn hpn => ?_⟩
    obtain ⟨o2, s2, sb⟩ := o1.newF (x := .lst []) hpn
    refine ⟨_, .inl ⟨kvs, k0, o2.sub.rd (sb.rd (s1.sub.rd hd)), rfl, rfl⟩, ?_⟩
    have lk := rk.look (k := k0)
    cases e : lookD kds k0 with
    | some d =>
      rw [e] at lk h2
      obtain ⟨v, ev, rp⟩ := lk
      rw [ev]
      exact k _ _ h2 v _ _ R1 [] o2 (s1.trans s2) (.leaf (Rp.mono sb _ _ (Rp.mono s1.sub _ _ rp)))
    | none =>
      rw [e] at lk h2
      have lk : valV kvs k0 = none := lk
      rw [lk]
      exact k _ _ h2 (.ref pn) _ _ R1 [] o2 (s1.trans s2) (.leaf (.lst upd_same .nil))⟩
@[simp] def sFgetI (i : Nat) (ga : SA) : SE := fun Γ κ Ex => ∃ kvs, DicAt Γ i kvs ∧ ga Γ (fun a Γ1 => rdK Γ1 a fun d => ∃ k y, d = keyD k ∧ lookD kvs k = some y ∧ κ (O.leaf y) Γ1) Ex
theorem ej_fgetI (hu : X.A.units + 1 < cLine) (hp : PE X (.Name x p1) (tVar i)) (ha : AJ X pa a ga) (hs : NoSl a) : EJ X pa (.Subscript (.Name x p1) a pos) (sFgetI i ga) := ⟨fun W tk =>
  PE.imp (pe_dget hu hp (ha.run W tk) hs) fun σ H Q ⟨F, Γ, R, Ex, Kc, o, xl, ⟨kds, e0, q⟩, k⟩ => by
    obtain ⟨a0, kvs, ev, hd, rk⟩ := o.dicAt e0
    refine ⟨_, ev, F, Γ, R, Ex, _, o, xl, q, fun ar Γ1 h1 v F1 H1 R1 o1 s1 a1 => ?_⟩
    obtain ⟨d, b, k0, y, rfl, e, h2⟩ := rdK_ok o1 a1 h1
    have evk := bp_key b
    subst evk
    obtain ⟨v, ev, rp⟩ := rk.val e
    exact ⟨a0, v, rfl, .inl ⟨kvs, k0, o1.sub.rd (s1.sub.rd hd), rfl, ev.symm⟩, k _ _ h2 v F1 H1 R1 [] o1 s1 (.leaf (Rp.mono s1.sub _ _ rp))⟩⟩
/-- for k in d, d a dict that is locked -/
theorem itd_keys {K : PySem.W.Frag} {F : Hp} {d : Addr} {ob : Obj} {kvs : List (Key × V)} (h : F d = some (.frz ob (.dK kvs))) : ItD K (Itk d ob kvs) F ((kvs.map (·.1)).map keyD) := fun i F1 H σ Γ R pa o sb => by
  have hH := o.sub _ _ (sb _ _ h)
  refine ⟨fun x e => ?_, fun hl => ⟨hH, by simp at hl; omega⟩⟩
  rw [List.map_map, List.getElem?_map] at e
  cases hc : kvs[i]? with
  | none => rw [hc] at e; cases e
  | some kv =>
    rw [hc] at e
    cases e
    have hi : i < kvs.length := (List.getElem?_eq_some_iff.mp hc).1
    refine ⟨⟨hH, hi⟩, fun y H' ⟨e1, k, v, e2, e3⟩ => ?_⟩
    subst e1 e3
    rw [hc] at e2
    cases e2
    refine ⟨F1, o, .refl, ?_⟩
    cases k with
    | inl i => exact .int i
    | inr z => exact .str z
@[simp] def iKd (ga : SA) : SI := fun Γ κ Ex => ga Γ (fun a Γ' => rdF Γ' a fun d => match d with | .dil kvs => κ ((kvs.map (·.1)).map keyD) Γ' | _ => False) Ex
theorem RpKv.keys {K : PySem.W.Frag} {F : Hp} : ∀ {vs : List (Key × V)} {ds : List (Key × D)}, RpKv K F vs ds → vs.map (·.1) = ds.map (·.1)
  | _, _, .nil => rfl
  | _, _, .cons r t => by rw [List.map_cons, List.map_cons, RpKv.keys t]
theorem ij_keys (ha : AJ X pa a ga) : IJ X pa tg a (iKd ga) := ⟨fun W tk => PI.imp (pi_keys (ha.run W tk)) fun σ H Q ⟨F, Γ, R, Ex, Kc, o, xl, q, k⟩ => ⟨F, Γ, R, Ex, _, o, xl, q, fun y Γ' h1 v F' H' R' o' s' a' => by
  obtain ⟨d, rp, h2⟩ := rdF_ok o' a' h1
  cases rp with
  | dil q1 q2 =>
    have h2 : Kc _ Γ' := h2
    rw [← q2.keys] at h2
    exact ⟨_, _, rfl, .inl ⟨_, o'.sub _ _ q1, k _ _ h2 _ F' H' R' o' s' (itd_keys q1)⟩⟩
  | _ => exact h2.elim⟩⟩
theorem rp_key {K : PySem.W.Frag} {F : Hp} {v : V} {k : Key} (b : Rp K F v (keyD k)) : v = kV k := by
  cases k with
  | inl i => cases b; rfl
  | inr z => cases b; rfl
theorem owns_leafs {K : PySem.W.Frag} {F H : Hp} : ∀ {vs : List (Key × V)} {ds : List (Key × D)}, RpKv K F vs ds → Owns K F H (vs.map (·.2)) (ds.map fun kv => O.leaf kv.2) []
  | _, _, .nil => .nil
  | _, _, .cons r t => .cons (.leaf r) (owns_leafs t) fun _ h => nomatch h
def dkGo (g : SG) (c : ST) (fk fv : SA) (vs : List Nat) : List D → List (Key × D) → List S → (List (Key × D) → List S → Prop) → Prop
  | [], acc, Γ, κ => κ acc Γ
  | d :: ds, acc, Γ, κ => g d Γ fun Γ1 => c Γ1 (fun b Γ2 => if b = true then fk Γ2 (fun a Γ3 => fv Γ3 (fun e Γ4 => ∃ k x, a = .val (keyD k) ∧ e = .val x ∧ (∀ p ∈ acc, p.1 ≠ k) ∧ dkGo g c fk fv vs ds (acc ++ [(k, x)]) (clr vs Γ4) κ) noX) noX else dkGo g c fk fv vs ds acc (clr vs Γ2) κ) noX
@[simp] def sDcompO (h : SI) (g : SG) (c : ST) (fk fv : SA) (vs : List Nat) : SE := fun Γ κ Ex => h Γ (fun ds Γ1 => ds.length < sizeLine ∧ dkGo g c fk fv vs ds [] (clr vs Γ1) fun kvs Γ2 => κ (.dc (kvs.map (·.1)) (kvs.map fun kv => .leaf kv.2)) (rst vs Γ1 Γ2)) Ex
section
variable {g : SG} {c : ST} {fk fv : SA} {h : SI} {ifs : List Expr} {scope : Scope} {own : List (Str × Nat)}
theorem tDcO_of {W : WX} {vs : List Nat} {σ : Sg} {H : Hp} {Q : VK} (hh : tE X.K pa W (sDcompO h g c fk fv vs) σ H Q) : tDc (tI X.K pa W h) (tG X.K pa vs g) (tT X.K pa noW c) (tA X.K pa noW fk) (tA X.K pa noW fv) vs σ H Q := by
  obtain ⟨F, Γ, R, Ex, Kc, o, xl, q, kk⟩ := hh
  refine ⟨F, Γ, R, Ex, _, o, xl, q, fun ds Γ1 ⟨hsz, h1⟩ J F1 H1 R1 o1 s1 it => fun Dd hD => ?_⟩
  let St : Nat → Hp → Prop := fun i H => ∃ F Γ R kvs acc, OkF X.K pa F H (wipe σ vs) Γ R ∧ Stp F1 H1 R1 F H R [Dd] ∧ H Dd = some (.dK kvs) ∧ RpKv X.K F kvs acc ∧ F Dd = none ∧ (∀ i, Dd ∉ R i) ∧ acc.length ≤ i ∧ (acc.map (·.1)).Nodup ∧ dkGo g c fk fv vs (ds.drop i) acc Γ (fun kvs Γ2 => Kc (.dc (kvs.map (·.1)) (kvs.map fun kv => .leaf kv.2)) (rst vs Γ1 Γ2))
  refine ⟨fun i m H => m = ds.length - i ∧ i ≤ ds.length ∧ St i H, ⟨ds.length, ?_⟩, ?_⟩
  · have oc := clr_ok (vs := vs) o1
    obtain ⟨o2, s2⟩ := oc.newH (x := .dK []) hD
    exact ⟨by simp, Nat.zero_le _, F1, _, _, [], [], o2, (Stp.refl.le offR_le).trans s2, upd_same, .nil, o1.sub.none hD, fun i h => oc.hs i _ h hD, Nat.le_refl _, List.nodup_nil, by simpa using h1⟩
  · rintro i m H2 ⟨rfl, hi, F2, Γ2, R2, kvs, acc, o2, s2, eD, rk, nF, nR, hacc, nd, h2⟩
    obtain ⟨go, stop⟩ := it i F2 H2 (wipe σ vs) Γ2 R2 pa o2 s2.sub
    by_cases hlt : i < ds.length
    · rw [drop_get hlt] at h2
      obtain ⟨go, yld⟩ := go _ (List.getElem?_eq_getElem hlt)
      refine .inr ⟨go, St (i + 1), fun H' hN => ⟨ds.length - (i + 1), by omega, rfl, hlt, hN⟩, fun x H3 y => ?_⟩
      obtain ⟨F3, o3, s3, rp⟩ := yld x H3 y
      refine ⟨F3, Γ2, R2, _, _, o3, rp, h2, fun Γ4 h4 σ4 R4 o4 l4 w4 => ?_⟩
      rw [wipe_idem] at w4
      have s34 : Stp F2 H2 R2 F3 H3 R4 [] := s3.le l4
      obtain ⟨e4, nF4, nR4⟩ := s34.held eD nF nR
      refine ⟨w4, F3, Γ4, R4, noX, _, o4, fun _ _ _ _ _ _ _ h => h.elim, h4, fun b Γ5 h5 F5 H5 R5 o5 s5 => ?_⟩
      obtain ⟨e5, nF5, nR5⟩ := s5.held e4 nF4 nR4
      have sb5 : Sub F2 F5 := s34.sub.trans s5.sub
      have t5 := (s2.trans s34).trans s5
      cases b with
      | true =>
        rw [if_pos rfl] at h5 ⊢
        refine ⟨F5, Γ5, R5, noX, _, o5, fun _ _ _ _ _ _ _ h => h.elim, h5, fun aa Γ6 h6 v6 F6 H6 R6 o6 s6 a6 => ?_⟩
        obtain ⟨e6, nF6, nR6⟩ := s6.held e5 nF5 nR5
        refine ⟨F6, Γ6, R6, noX, _, o6, fun _ _ _ _ _ _ _ h => h.elim, h6, fun ab Γ7 h7 v7 F7 H7 R7 o7 s7 a7 => ?_⟩
        obtain ⟨e7, nF7, nR7⟩ := s7.held e6 nF6 nR6
        obtain ⟨n, d, rfl, rfl, fresh, h8⟩ := h7
        have a6' : Rp X.K F6 v6 (keyD n) := a6
        have ev6 := rp_key a6'
        subst ev6
        have a7' : Rp X.K F7 v7 d := a7
        have rk7 : RpKv X.K F7 kvs acc := RpKv.mono ((sb5.trans s6.sub).trans s7.sub) acc kvs rk
        have hput : putK kvs n v7 = kvs ++ [(n, v7)] := by
          unfold putK
          rw [rk7.none_any fresh]
          rfl
        have hlen := rk7.len
        have o8 := (clr_ok (vs := vs) o7).updX (a := Dd) (x := .dK (kvs ++ [(n, v7)])) nF7 (fun i z => nR7 i (offR_le i _ z))
        refine ⟨kvs, n, rfl, e7, by omega, ?_⟩
        rw [hput]
        refine ⟨F7, clr vs Γ7, offR vs R7, kvs ++ [(n, v7)], acc ++ [(n, d)], ?_, ?_, upd_same, rk7.snoc a7', nF7, fun i z => nR7 i (offR_le i _ z), by simp; omega, ?_, h8⟩
        · have := o8
          rw [show wipe σ4 vs = wipe σ vs from w4] at this
          exact this
        · exact (((t5.trans s6).trans s7).le offR_le).updX hD
        · rw [List.map_append]
          refine List.nodup_append.mpr ⟨nd, by simp, fun a ha b hb => ?_⟩
          intro e
          have : b = n := by simpa using hb
          obtain ⟨pp, hpp, rfl⟩ := List.mem_map.mp ha
          exact fresh pp hpp (e.trans this)
      | false =>
        rw [if_neg Bool.false_ne_true] at h5 ⊢
        refine ⟨F5, clr vs Γ5, offR vs R5, kvs, acc, ?_, ?_, e5, RpKv.mono sb5 acc kvs rk, nF5, fun i z => nR5 i (offR_le i _ z), by omega, nd, h5⟩
        · have := clr_ok (vs := vs) o5
          rw [show wipe σ4 vs = wipe σ vs from w4] at this
          exact this
        · exact (t5.le offR_le).withR fun a ha => by
            have e : a = Dd := by simpa using ha
            rw [e]; exact .inl hD
    · rw [List.drop_eq_nil_of_le (by omega)] at h2
      have or := rst_ok o1 s2.sub o2
      have sr := ((s1.trans s2).le offR_le : Stp F H R F2 H2 (offR vs R2) [Dd])
      refine .inl ⟨stop (by omega), kk _ _ (by simpa [dkGo] using h2) _ F2 H2 _ [Dd] or sr ⟨.dc eD rk.keys nd ?_ (by simp), fun i a ha hi => ?_, fun a ha => ?_⟩⟩
      · exact owns_leafs rk
      · have e : a = Dd := by simpa using ha
        subst e
        exact nR i (offR_le i _ hi)
      · have e : a = Dd := by simpa using ha
        subst e
        exact nF
/-- {k: v for tg in iter if ..}, keys that are all different; the dict is then its holder's own -/
theorem ej_dcompO (hc : X.calm = true) (hN : X.N.Nodup) (ok : BlkOk X.N X.env.scope scope own) (hi : IJ X pa tg iter h)
    (hg : ∀ (s : Shared) (H : Hp) (C : Addr) (cl : List (Str × Addr)) (fp : List Addr), GJ (X.blk s H scope (compEnvC scope cl C X.env) fp) pa (own.map (·.2)) tg g)
    (ht : ∀ (s : Shared) (H : Hp) (C : Addr) (cl : List (Str × Addr)) (fp : List Addr), CJ (X.blk s H scope (compEnvC scope cl C X.env) fp) pa ifs c)
    (hk : ∀ (s : Shared) (H : Hp) (C : Addr) (cl : List (Str × Addr)) (fp : List Addr), AJ (X.blk s H scope (compEnvC scope cl C X.env) fp) pa kx fk)
    (he : ∀ (s : Shared) (H : Hp) (C : Addr) (cl : List (Str × Addr)) (fp : List Addr), AJ (X.blk s H scope (compEnvC scope cl C X.env) fp) pa vx fv)
    (hs : ∀ x, foldedSetIterable iter X.env x = pure x := by intro _; rfl) : EJ X pa (.DictComp kx vx [⟨tg, iter, ifs, 0⟩] scope pos) (sDcompO h g c fk fv (own.map (·.2))) := ⟨fun W tk =>
  PE.imp (pe_dc hc hN (hi.run W tk) ok (fun s H C cl fp => (hg s H C cl fp).run) (fun s H C cl fp => (ht s H C cl fp).run) (fun s H C cl fp => (hk s H C cl fp).run noW takesNo) (fun s H C cl fp => (he s H C cl fp).run noW takesNo) hs) fun σ H Q h => tDcO_of h⟩
end
/-! a dict that is locked as it is made -/
theorem pe_lockR {t : TE} (h : PE X e t) : PE X e (fun σ H Q => t σ H fun v H' => ∃ d kvs, v = .ref d ∧ H' d = some (.dK kvs) ∧ ∀ od, Q v (upd H' d (.frz od (.dK kvs)))) := ⟨fun pins s σ H Q I hw => by
  refine thn (h.run pins s σ H _ I hw) fun u s1 ⟨v, H1, I1, r, d, kvs, ev, hd, q⟩ => ?_
  obtain ⟨od, I2⟩ := I1.lock hd True.intro
  exact ⟨v, _, I2, r, q od⟩⟩
theorem rpkv_of {K : PySem.W.Frag} {F H : Hp} : ∀ {kvs : List (Key × V)} {ds : List D} {r : List Addr}, Owns K F H (kvs.map (·.2)) (ds.map O.leaf) r → RpKv K F kvs ((kvs.map (·.1)).zip ds)
  | [], [], _, _ => .nil
  | [], _ :: _, _, h => nomatch h
  | _ :: _, [], _, h => nomatch h
  | (k, v) :: kvs, d :: ds, _, h => by
    have h : Owns K F H (v :: kvs.map (·.2)) (O.leaf d :: ds.map O.leaf) _ := h
    cases h with
    | cons q t =>
      cases q with
      | leaf rp => exact .cons rp (rpkv_of t)
@[simp] def sLock (f : SE) : SE := fun Γ κ Ex => f Γ (fun t Γ' => ∃ ks ds, t = .dc ks (ds.map .leaf) ∧ κ (.leaf (.dil (ks.zip ds))) Γ') Ex
theorem ej_lock (hf : EJ X pa e f) : EJ X pa e (sLock f) := ⟨fun W tk => PE.imp (pe_lockR (hf.run W tk)) fun σ H Q ⟨F, Γ, R, Ex, Kc, o, xl, q, k⟩ => ⟨F, Γ, R, Ex, _, o, xl, q, fun t Γ1 ⟨ks, ds, et, h1⟩ v F1 H1 R1 r1 o1 s1 x1 => by
  subst et
  have ow := x1.own
  have hdj := x1.dj
  have hfr := x1.fr
  generalize ht : O.dc ks (ds.map O.leaf) = tt at ow
  cases ow with
  | dc q1 q2 nd q3 q4 =>
    rename_i a kvs ks' ts r
    cases ht
    refine ⟨a, kvs, rfl, q1, fun od => ?_⟩
    have nF := hfr a List.mem_cons_self
    have nR := fun i => hdj i a List.mem_cons_self
    have o2 := (o1.updX (a := a) (x := .frz od (.dK kvs)) nF nR).frz upd_same nF nR
    have sb : Sub F1 (upd F1 a (.frz od (.dK kvs))) := fun b y q => (upd_ne fun e => by rw [e, nF] at q; cases q).trans q
    have s2 : Stp F H R (upd F1 a (.frz od (.dK kvs))) (upd H1 a (.frz od (.dK kvs))) R1 [] := ⟨s1.sub.trans sb, fun b ob q n => by
        by_cases eb : b = a
        · subst eb
          rcases s1.r1 b List.mem_cons_self with z | ⟨j, z⟩
          · rw [q] at z; cases z
          · exact absurd z (n j)
        · rw [upd_ne eb]; exact s1.keep b ob q n, s1.rn, fun _ h => (nomatch h), fun b hb => by
        by_cases eb : b = a
        · subst eb
          exact .inr (s1.r1 b List.mem_cons_self)
        · rw [upd_ne eb] at hb; exact s1.fn b hb⟩
    exact k _ _ h1 (.ref a) _ _ R1 [] o2 s2 (.leaf (.dil upd_same (RpKv.mono sb _ _ (q2 ▸ rpkv_of q3))))
  | _ => cases ht⟩⟩
/-! d.setdefault(k, []).append(y), y a name -/
@[simp] def zKapp (i : Nat) (ga : SA) (jn : Nat) : SS := fun k Γ Ex => (∃ (j : Option Nat) (ks : List Key) (ts : List O), Γ[i]? = some (.o j (.dc ks ts))) ∧ ga Γ (fun a Γ1 => rdK Γ1 a fun d => ∃ kk j ks ts dv, d = keyD kk ∧ Γ1[i]? = some (.o j (.dc ks ts)) ∧ Γ1[jn]? = some (.v dv) ∧ ks.length < sizeLine ∧ match ixK ks kk with
  | some n => ∃ ds, ts[n]? = some (O.ls ds) ∧ ds.length < sizeLine ∧ k.nx (Γ1.set i (.o j (.dc ks (ts.set n (.ls (ds ++ [dv]))))))
  | none => j = none ∧ k.nx (Γ1.set i (.o none (.dc (ks ++ [kk]) (ts ++ [.ls [dv]]))))) Ex
theorem sj_kapp {jn : Nat} (hp : PE X (.Name x p1) (tVar i)) (ha : AJ X pa a ga) (hy : PE X (.Name y p6) (tVar jn)) (m : M2 X (.Name x p1) "setdefault" p2 a (.List [] p3) p4 := by exact ⟨by rfl, by rfl, by rfl, by rfl⟩)
    (hline : (p5.endLine == pos'.line) = true := by rfl)
    (hbase : attributeBase (.Call (.Attribute (.Name x p1) "setdefault" p2) [a, .List [] p3] [] p4) "append" X.env (eval (.Call (.Attribute (.Name x p1) "setdefault" p2) [a, .List [] p3] [] p4) X.env) = eval (.Call (.Attribute (.Name x p1) "setdefault" p2) [a, .List [] p3] [] p4) X.env := by rfl)
    (hfew : ((backTo pos' (starEach [.Name y p6] X.env)).all (fun x => !x.1) && (backToKw pos' (keywordEach [] X.env)).all (fun x => x.1.isSome)
      && decide (([.Name y p6] : List Expr).length + ([] : List Keyword).length + (if ([] : List Keyword).isEmpty then 0 else 1) < 30)) = true := by rfl)
    (hse : starEach [.Name y p6] X.env = (false, eval (.Name y p6) X.env) :: starEach [] X.env := by rfl)
    (hs : swapsWith (.Call (.Attribute (.Call (.Attribute (.Name x p1) "setdefault" p2) [a, .List [] p3] [] p4) "append" p5) [.Name y p6] [] pos') none pos.line X.env = pure false := by rfl) :
    SJ X pa (.Expr (.Call (.Attribute (.Call (.Attribute (.Name x p1) "setdefault" p2) [a, .List [] p3] [] p4) "append" p5) [.Name y p6] [] pos') pos) (zKapp i ga jn) := ⟨fun W tk =>
  PS.imp (ps_expr (pe_bm PySem.F.plainAttrs_list PySem.F.slot_list_append PySem.F.type_list_append mt_append (pe_dsetd hp (ha.run W tk) (pe_lst pa_nil) m) (pa_cons hy pa_nil hse) hbase hfew hline hse) hs) fun D σ H ⟨F, Γ, R, Ex, k, o, xl, ⟨⟨j0, ks0, ts0, e0⟩, q⟩, n, _⟩ => by
    obtain ⟨a0, kvs0, r0, ev0, hA0, _⟩ := o.dc e0
    refine ⟨_, ev0, a0, rfl, .inl ⟨_, .of hA0⟩, F, Γ, R, Ex, _, o, xl σ, q, fun ar Γ1 h1 v F1 H1 R1 o1 s1 a1 => ?_⟩
    obtain ⟨d, b, kk, j, ks, ts, dv, rfl, e1, ey, hsz, h2⟩ := rdK_ok o1 a1 h1
    have evk := bp_key b
    subst evk
    refine ⟨Nat.zero_le _, fun pn hpn => ?_⟩
    obtain ⟨a1', kvs, r, ev, ha1, hkk, nd, ow, hn, hR⟩ := o1.dc e1
    rw [ev0] at ev
    cases ev
    obtain ⟨_, vy, evy, rpy⟩ := o1.sl jn _ ey
    have hl : kvs.length < sizeLine := by rw [← hkk, List.length_map] at hsz; exact hsz
    have npn : a0 ≠ pn := fun z => by rw [z, hpn] at ha1; cases ha1
    refine ⟨kvs, kk, by rw [upd_ne npn]; exact ha1, rfl, hl, fun vv hvv => ?_, fun hvn => ?_⟩
    · cases hix : ixK ks kk with
      | none =>
        have := valV_no (kvs := kvs) (k := kk) (by rw [hkk]; exact ixK_none hix)
        rw [hvv] at this
        cases this
      | some m =>
        rw [hix] at h2
        obtain ⟨ds, ht, hds, h3⟩ := h2
        obtain ⟨o2, s2, sb⟩ := o1.newF (x := .lst []) hpn
        obtain ⟨a2, kvs2, r2, ev2, ha2, hkk2, nd2, ow2, hn2, hR2⟩ := o2.dc e1
        rw [ev0] at ev2
        cases ev2
        rw [upd_ne npn] at ha2
        rw [ha1] at ha2
        cases ha2
        obtain ⟨bb, ws, g3, g4, g5, g6, g7⟩ := ow2.inner ht
        have hm := ixK_some hix
        have := valV_in (k := kk) (hkk ▸ nd) (hkk ▸ hm) g3
        rw [hvv] at this
        cases this
        have nab : a0 ≠ bb := fun z => hn2 (z ▸ g6)
        refine ⟨.inl ⟨rfl, _, SqL.of g4⟩, vy, evy, bb, ws, vy, rfl, rfl, g4, by rw [g5.length]; exact hds, ?_⟩
        obtain ⟨o3, s3⟩ := o2.updI (x := .lst (ws ++ [vy])) (p := bb) (t' := .dc ks (ts.set m (.ls (ds ++ [dv])))) e1 ev0 (by rw [hR2]; exact List.mem_cons_of_mem _ g6) (by
          rw [hR2]
          exact .dc (by rw [upd_ne nab, upd_ne npn]; exact ha1) hkk nd (g7 _ _ (g5.snoc (Rp.mono sb _ _ rpy))) hn2)
        exact n _ h3 _ _ _ _ o3 ((s1.trans s2).trans s3)
    · cases hix : ixK ks kk with
      | some m =>
        have hm := ixK_some hix
        have hl2 : m < kvs.length := by have := (List.getElem?_eq_some_iff.mp hm).1; rw [← hkk, List.length_map] at this; exact this
        have := valV_in (k := kk) (v := kvs[m].2) (hkk ▸ nd) (hkk ▸ hm) (by rw [List.getElem?_map, List.getElem?_eq_getElem hl2]; rfl)
        rw [hvn] at this
        cases this
      | none =>
        rw [hix] at h2
        have ep : putK kvs kk (.ref pn) = kvs ++ [(kk, .ref pn)] := putK_new _ hvn
        obtain ⟨rfl, h3⟩ := h2
        rw [ep]
        have hR0 : R1 i = a0 :: r := hR
        have nFp : F1 pn = none := o1.sub.none hpn
        have nFa : F1 a0 = none := o1.fr i a0 (by rw [hR0]; exact List.mem_cons_self)
        have pnr : ∀ l, pn ∉ R1 l := fun l hm => o1.hs l pn hm hpn
        refine ⟨.inl ⟨rfl, _, SqL.of (by rw [upd_ne npn.symm]; exact upd_same)⟩, vy, evy, pn, [], vy, rfl, rfl, by rw [upd_ne npn.symm]; exact upd_same, by rw [sizeLine_eq]; decide, ?_⟩
        have eH : upd (upd (upd H1 pn (.lst [])) a0 (.dK (kvs ++ [(kk, V.ref pn)]))) pn (.lst ([] ++ [vy])) = upd (upd H1 pn (.lst [vy])) a0 (.dK (kvs ++ [(kk, V.ref pn)])) := by
          funext bq
          by_cases e1 : bq = pn
          · subst e1; rw [upd_same, upd_ne npn.symm, upd_same]; rfl
          · rw [upd_ne e1]
            by_cases e2 : bq = a0
            · subst e2; rw [upd_same, upd_same]
            · rw [upd_ne e2, upd_ne e2, upd_ne e1, upd_ne e1]
        rw [eH]
        obtain ⟨o2, s2⟩ := o1.newH (x := .lst [vy]) hpn
        have o3 := (o2.setUn (i := i)).updX (a := a0) (x := .dK (kvs ++ [(kk, V.ref pn)])) nFa fun l hm => by
          split at hm
          · cases hm
          · rename_i hne
            exact hne (o1.dj l i a0 hm (by rw [hR0]; exact List.mem_cons_self))
        have ow2 : Owns X.K F1 (upd (upd H1 pn (.lst [vy])) a0 (.dK (kvs ++ [(kk, V.ref pn)]))) (kvs.map (·.2)) ts r := ow.mono .refl _ _ _ fun bq hb => by
          have n1 : bq ≠ a0 := fun z => hn (z ▸ hb)
          have n2 : bq ≠ pn := fun z => pnr i (by rw [hR0]; exact List.mem_cons_of_mem _ (z ▸ hb))
          rw [upd_ne n1, upd_ne n2]
        have x3 : Res X.K F1 (upd (upd H1 pn (.lst [vy])) a0 (.dK (kvs ++ [(kk, V.ref pn)]))) (fun l => if l = i then [] else R1 l) (.ref a0) (.dc (ks ++ [kk]) (ts ++ [.ls [dv]])) (a0 :: (r ++ [pn])) := by
          refine ⟨.dc upd_same (by rw [List.map_append, hkk]; rfl) (List.nodup_append.mpr ⟨nd, by simp, fun a ha b hb => ?_⟩) (by
            rw [List.map_append]
            exact Owns.snoc (.ls (by rw [upd_ne npn.symm]; exact upd_same) (.cons rpy .nil)) ow2 fun bq hb hm => by
              have : bq = pn := by simpa using hm
              exact pnr i (by rw [hR0]; exact List.mem_cons_of_mem _ (this ▸ hb))) (by
            intro hm
            rcases List.mem_append.mp hm with hm | hm
            · exact hn hm
            · exact npn (by simpa using hm)), fun l bq hb hm => ?_, fun bq hb => ?_⟩
          · intro e
            have : b = kk := by simpa using hb
            exact ixK_none hix (this ▸ e ▸ ha)
          · split at hm
            · cases hm
            · rename_i hne
              rcases List.mem_cons.mp hb with rfl | hb
              · exact hne (o1.dj l i _ hm (by rw [hR0]; exact List.mem_cons_self))
              · rcases List.mem_append.mp hb with hb | hb
                · exact hne (o1.dj l i _ hm (by rw [hR0]; exact List.mem_cons_of_mem _ hb))
                · have : bq = pn := by simpa using hb
                  exact pnr l (this ▸ hm)
          · rcases List.mem_cons.mp hb with rfl | hb
            · exact nFa
            · rcases List.mem_append.mp hb with hb | hb
              · exact o1.fr i _ (by rw [hR0]; exact List.mem_cons_of_mem _ hb)
              · have : bq = pn := by simpa using hb
                rw [this]; exact nFp
        have o4 := o3.setO (i := i) x3
        have eσ : ((σ.set i none).set i (some (V.ref a0))) = σ := by
          rw [List.set_set]
          refine List.ext_getElem? fun l => ?_
          by_cases hl3 : l = i
          · subst hl3
            rw [List.getElem?_set_self (by have := (List.getElem?_eq_some_iff.mp ev0).1; exact this), ev0]
          · rw [List.getElem?_set_ne (Ne.symm hl3)]
        rw [eσ, List.set_set] at o4
        have sB : Stp F H R F1 (upd (upd H1 pn (.lst [vy])) a0 (.dK (kvs ++ [(kk, V.ref pn)]))) (fun l => if l = i then a0 :: (r ++ [pn]) else (fun l => if l = i then [] else R1 l) l) [] := by
          refine ⟨s1.sub, fun bq ob qb nb => ?_, fun l bq hm => ?_, fun _ h => (nomatch h), s1.fn⟩
          · have k1 := s1.keep bq ob qb nb
            rw [upd_ne (fun z => by
              subst z
              rcases s1.rn i bq (by rw [hR0]; exact List.mem_cons_self) with z | ⟨j', z⟩
              · rw [qb] at z; cases z
              · exact nb j' z), upd_ne (fun z => by rw [z, hpn] at k1; cases k1)]
            exact k1
          · split at hm
            · rcases List.mem_cons.mp hm with rfl | hm
              · exact s1.rn i _ (by rw [hR0]; exact List.mem_cons_self)
              · rcases List.mem_append.mp hm with hm | hm
                · exact s1.rn i _ (by rw [hR0]; exact List.mem_cons_of_mem _ hm)
                · have : bq = pn := by simpa using hm
                  rw [this]
                  exact s1.back (.inl hpn)
            · rename_i hne
              try dsimp only at hm
              rw [if_neg hne] at hm
              exact s1.rn l bq hm
        exact n _ h3 _ _ _ _ o4 sB⟩
/-! name = {k: v for ..} on one line, the name a local -/
theorem ps_setDc {i : Nat} {y : Str} {py spos : Pos} {scope : Scope} {own : List (Str × Nat)} {ifs : List Expr} {wi : TI} {g : TG} {tt : TT} {tk tv : TE} (hc : X.calm = true) (hN : X.N.Nodup) (hy : X.N[i]? = some y) (hyl : X.env.scope.names.lookup y = some .local)
    (hsw : swapsWith (.DictComp kx vx [⟨tg, iter, ifs, 0⟩] scope pos) (some (.Name y py)) spos.line X.env = pure true) (hi : PI X tg iter wi) (ok : BlkOk X.N X.env.scope scope own)
    (hg : ∀ (s : Shared) (H : Hp) (C : Addr) (cl : List (Str × Addr)) (fp : List Addr), PG (X.blk s H scope (compEnvC scope cl C X.env) fp) tg g) (ht : ∀ (s : Shared) (H : Hp) (C : Addr) (cl : List (Str × Addr)) (fp : List Addr), PTs (X.blk s H scope (compEnvC scope cl C X.env) fp) ifs tt)
    (hk : ∀ (s : Shared) (H : Hp) (C : Addr) (cl : List (Str × Addr)) (fp : List Addr), PE (X.blk s H scope (compEnvC scope cl C X.env) fp) kx tk)
    (he : ∀ (s : Shared) (H : Hp) (C : Addr) (cl : List (Str × Addr)) (fp : List Addr), PE (X.blk s H scope (compEnvC scope cl C X.env) fp) vx tv) (hs : ∀ x, foldedSetIterable iter X.env x = pure x) :
    PS X (.Assign [.Name y py] (.DictComp kx vx [⟨tg, iter, ifs, 0⟩] scope pos) spos) (tAsg (tDc wi g tt tk tv (own.map (·.2))) (gName i)) := by
  refine ⟨fun pins s σ H D I h => ?_⟩
  rw [exec_Assign_Name_used _ _ _ _ hsw]
  refine wpAny_bind (wpAny_standAt (wpAny_bind ?_))
  show wpAny _ X.A (do let _ ← comprehension (.DictComp kx vx [⟨tg, iter, ifs, 0⟩] scope pos) scope X.env (firstIterPos [⟨tg, iter, ifs, 0⟩] pos) newDict false (eval iter X.env) (some (assign (.Name y py) X.env))) _ _ s
  have h : tDc wi g tt tk tv (own.map (·.2)) σ H (fun x H1 => gName i x σ H1 D.nx) := h
  refine wpAny_bind (thn (dc_core (Qf := fun _ s' => SP X pins D .next s') hc hN I hi ok hg ht hk he hs h fun L C s' m H' I' q hn f => ?_) fun _ s' hq => wpAny_pure (wpAny_pure hq))
  show wpAny _ _ (assign (.Name y py) X.env (.ref L)) _ _ _
  refine wpAny_assign_Name (store_ok2 (v := V.ref L) I' hN hy (.inl hyl) rfl (fun s2 I2 ⟨a, sb, ha⟩ => ?_) (.inr hyl))
  obtain ⟨f0, f1, f2, f3, f4, f5⟩ := f
  have haC : C ≠ a := by
    rcases ha with z | z
    · rw [z]; exact f1
    · exact fun e => f4 y a z e.symm
  refine ⟨m, hn.sameBut sb haC, fun h3 sb3 => ?_⟩
  exact ⟨_, H', I2.turned (t' := s2.toks) (fun b o hb e => (sb3.2 b hb).trans e) f0 f1 f3 f4 f5, q⟩
theorem sw_trueD {gs : List Comprehension} {scope : Scope} {l : Nat} {env : Env} (hk : env.scope.kind = .function) (hy : env.scope.names.lookup y = some .local) (hl : (py.line == pos.line) = true)
    (ha : (scope.names.any fun (n, k) => n == y && (k == .local || k == .cell)) = false) : swapsWith (.DictComp kx vx gs scope pos) (some (.Name y py)) l env = pure true := by
  have ky : env.kindOf y = some .local := hy
  have hb : env.blockKind = .function := by unfold Env.blockKind; rw [hk]; rfl
  unfold swapsWith
  simp only [hb, ky, ha, Expr.pos, hl]
  rfl
theorem ps_lockN {st : Stmt} {t : TS} (h : PS X st t) : PS X st (fun D σ H => t ⟨fun σ' H' => ∃ d kvs, H' d = some (.dK kvs) ∧ ∀ od, D.nx σ' (upd H' d (.frz od (.dK kvs))), D.rt, D.bk, D.ct⟩ σ H) := by
  refine ⟨fun pins s σ H D I hw => ?_⟩
  refine thn (h.run pins s σ _ _ I hw) fun f s1 q => ?_
  cases f with
  | next =>
    obtain ⟨σ', H', I2, d, kvs, hd, q⟩ := q
    obtain ⟨od, I3⟩ := I2.lock hd True.intro
    exact ⟨σ', _, I3, q od⟩
  | brk => exact q
  | cont => exact q
  | ret v => exact q
@[simp] def zLockA (i : Nat) (f : SE) : SS := fun k Γ Ex => f Γ (fun t Γ' => ∃ ks ds, t = .dc ks (ds.map .leaf) ∧ k.nx (Γ'.set i (.v (.dil (ks.zip ds))))) Ex
section
variable {g : SG} {c : ST} {fk fv : SA} {h : SI} {ifs : List Expr} {scope : Scope} {own : List (Str × Nat)} {z : SS} {spos : Pos}
theorem sj_setDc (hc : X.calm = true) (hN : X.N.Nodup) (hy : X.N[i]? = some y) (hyl : X.env.scope.names.lookup y = some .local)
    (hsw : swapsWith (.DictComp kx vx [⟨tg, iter, ifs, 0⟩] scope pos) (some (.Name y py)) spos.line X.env = pure true) (ok : BlkOk X.N X.env.scope scope own) (hi : IJ X pa tg iter h)
    (hg : ∀ (s : Shared) (H : Hp) (C : Addr) (cl : List (Str × Addr)) (fp : List Addr), GJ (X.blk s H scope (compEnvC scope cl C X.env) fp) pa (own.map (·.2)) tg g)
    (ht : ∀ (s : Shared) (H : Hp) (C : Addr) (cl : List (Str × Addr)) (fp : List Addr), CJ (X.blk s H scope (compEnvC scope cl C X.env) fp) pa ifs c)
    (hk : ∀ (s : Shared) (H : Hp) (C : Addr) (cl : List (Str × Addr)) (fp : List Addr), AJ (X.blk s H scope (compEnvC scope cl C X.env) fp) pa kx fk)
    (he : ∀ (s : Shared) (H : Hp) (C : Addr) (cl : List (Str × Addr)) (fp : List Addr), AJ (X.blk s H scope (compEnvC scope cl C X.env) fp) pa vx fv)
    (hs : ∀ x, foldedSetIterable iter X.env x = pure x := by intro _; rfl) : SJ X pa (.Assign [.Name y py] (.DictComp kx vx [⟨tg, iter, ifs, 0⟩] scope pos) spos) (zOwn i (sDcompO h g c fk fv (own.map (·.2)))) := ⟨fun W tk =>
  PS.imp (ps_setDc hc hN hy hyl hsw (hi.run W tk) ok (fun s H C cl fp => (hg s H C cl fp).run) (fun s H C cl fp => (ht s H C cl fp).run) (fun s H C cl fp => (hk s H C cl fp).run noW takesNo) (fun s H C cl fp => (he s H C cl fp).run noW takesNo) hs) fun D σ H ⟨F, Γ, R, Ex, k, o, xl, q, n, _⟩ =>
    tDcO_of (Q := fun x H1 => gName i x σ H1 D.nx) ⟨F, Γ, R, Ex, _, o, xl σ, q, fun t Γ' h1 v F' H' R' r o' s' x' => n _ h1 _ F' H' _ (o'.setO x') s'.setO⟩⟩
theorem sj_setDcL (hc : X.calm = true) (hN : X.N.Nodup) (hy : X.N[i]? = some y) (hyl : X.env.scope.names.lookup y = some .local)
    (hsw : swapsWith (.DictComp kx vx [⟨tg, iter, ifs, 0⟩] scope pos) (some (.Name y py)) spos.line X.env = pure true) (ok : BlkOk X.N X.env.scope scope own) (hi : IJ X pa tg iter h)
    (hg : ∀ (s : Shared) (H : Hp) (C : Addr) (cl : List (Str × Addr)) (fp : List Addr), GJ (X.blk s H scope (compEnvC scope cl C X.env) fp) pa (own.map (·.2)) tg g)
    (ht : ∀ (s : Shared) (H : Hp) (C : Addr) (cl : List (Str × Addr)) (fp : List Addr), CJ (X.blk s H scope (compEnvC scope cl C X.env) fp) pa ifs c)
    (hk : ∀ (s : Shared) (H : Hp) (C : Addr) (cl : List (Str × Addr)) (fp : List Addr), AJ (X.blk s H scope (compEnvC scope cl C X.env) fp) pa kx fk)
    (he : ∀ (s : Shared) (H : Hp) (C : Addr) (cl : List (Str × Addr)) (fp : List Addr), AJ (X.blk s H scope (compEnvC scope cl C X.env) fp) pa vx fv)
    (hs : ∀ x, foldedSetIterable iter X.env x = pure x := by intro _; rfl) : SJ X pa (.Assign [.Name y py] (.DictComp kx vx [⟨tg, iter, ifs, 0⟩] scope pos) spos) (zLockA i (sDcompO h g c fk fv (own.map (·.2)))) := ⟨fun W tk =>
  PS.imp (ps_lockN (ps_setDc hc hN hy hyl hsw (hi.run W tk) ok (fun s H C cl fp => (hg s H C cl fp).run) (fun s H C cl fp => (ht s H C cl fp).run) (fun s H C cl fp => (hk s H C cl fp).run noW takesNo) (fun s H C cl fp => (he s H C cl fp).run noW takesNo) hs)) fun D σ H ⟨F, Γ, R, Ex, k, o, xl, q, n, _⟩ =>
    tDcO_of (Q := fun x H1 => gName i x σ H1 fun σ' H' => ∃ d kvs, H' d = some (.dK kvs) ∧ ∀ od, D.nx σ' (upd H' d (.frz od (.dK kvs)))) ⟨F, Γ, R, Ex, _, o, xl σ, q, fun t Γ1 ⟨ks, ds, et, h1⟩ v F1 H1 R1 r1 o1 s1 x1 => by
      subst et
      have ow := x1.own
      have hdj := x1.dj
      have hfr := x1.fr
      generalize ht : O.dc ks (ds.map O.leaf) = tt at ow
      cases ow with
      | dc q1 q2 nd q3 q4 =>
        rename_i a kvs ks' ts r
        cases ht
        refine ⟨a, kvs, q1, fun od => ?_⟩
        have nF := hfr a List.mem_cons_self
        have nR := fun i => hdj i a List.mem_cons_self
        have o2 := (o1.updX (a := a) (x := .frz od (.dK kvs)) nF nR).frz upd_same nF nR
        have sb : Sub F1 (upd F1 a (.frz od (.dK kvs))) := fun b y q => (upd_ne fun e => by rw [e, nF] at q; cases q).trans q
        have s2 : Stp F H R (upd F1 a (.frz od (.dK kvs))) (upd H1 a (.frz od (.dK kvs))) R1 [] := ⟨s1.sub.trans sb, fun b ob q n => by
            by_cases eb : b = a
            · subst eb
              rcases s1.r1 b List.mem_cons_self with z | ⟨j, z⟩
              · rw [q] at z; cases z
              · exact absurd z (n j)
            · rw [upd_ne eb]; exact s1.keep b ob q n, s1.rn, fun _ h => (nomatch h), fun b hb => by
            by_cases eb : b = a
            · subst eb
              exact .inr (s1.r1 b List.mem_cons_self)
            · rw [upd_ne eb] at hb; exact s1.fn b hb⟩
        exact n _ h1 _ _ _ _ (o2.setV (.dil upd_same (RpKv.mono sb _ _ (q2 ▸ rpkv_of q3)))) s2.setV
      | _ => cases ht⟩⟩
end
end
end L3
/-! L3Bf: how soon a key can be reached -/
namespace L3
open PySem PySem.Spec PyProof.Rows L2 TL
def stK (s : Nat) : Key := .inl (s : Int)
abbrev chK : Key := .inr "changed"
theorem stK_inj {a b : Nat} (h : stK a = stK b) : a = b := by
  have := Sum.inl.inj h
  omega
structure FsOk (fs : List (List Key)) : Prop where
  ln : ∀ f ∈ fs, f.length ≤ 1000
  ky : ∀ f ∈ fs, ∀ k ∈ f, k = chK ∨ ∃ s, s < fs.length ∧ k = stK s
def rc (fs : List (List Key)) : Nat → Nat → Bool
  | 0, _ => false
  | t + 1, s => (fs.getD s []).any fun k => match k with | .inr _ => true | .inl j => rc fs t j.toNat
def fstR (fs : List (List Key)) (t s : Nat) : Option Nat := (List.range (t + 1)).find? fun j => rc fs j s
theorem fstR_some {fs : List (List Key)} {t s v : Nat} : fstR fs t s = some v ↔ v ≤ t ∧ rc fs v s = true ∧ ∀ j, j < v → rc fs j s = false := by
  unfold fstR
  rw [List.find?_range_eq_some]
  simp
  constructor
  · rintro ⟨a, b, c⟩; exact ⟨by omega, a, c⟩
  · rintro ⟨a, b, c⟩; exact ⟨b, by omega, c⟩
theorem fstR_none {fs : List (List Key)} {t s : Nat} : fstR fs t s = none ↔ ∀ j, j ≤ t → rc fs j s = false := by
  unfold fstR
  rw [List.find?_eq_none]
  simp
  constructor
  · intro h j hj; exact h j (by omega)
  · intro h j hj; exact h j (by omega)
theorem rc_mono {fs : List (List Key)} : ∀ {t s : Nat}, rc fs t s = true → rc fs (t + 1) s = true
  | 0, _, h => by cases h
  | t + 1, s, h => by
    unfold rc at h ⊢
    rw [List.any_eq_true] at h ⊢
    obtain ⟨k, hk, h⟩ := h
    refine ⟨k, hk, ?_⟩
    cases k with
    | inr z => rfl
    | inl j => exact rc_mono (t := t) h
theorem rc_le {fs : List (List Key)} {s : Nat} : ∀ {t u : Nat}, t ≤ u → rc fs t s = true → rc fs u s = true
  | t, 0, h, r => by rw [Nat.le_zero.mp h] at r; exact r
  | t, u + 1, h, r => by
    by_cases e : t = u + 1
    · rw [← e]; exact r
    · exact rc_mono (rc_le (by omega) r)
theorem fstR_of {fs : List (List Key)} {t s : Nat} (h : rc fs t s = true) : ∃ v, v ≤ t ∧ fstR fs t s = some v := by
  cases e : fstR fs t s with
  | some v => exact ⟨v, (fstR_some.mp e).1, rfl⟩
  | none =>
    have := fstR_none.mp e t (Nat.le_refl _)
    rw [h] at this
    cases this
theorem nodup_lt : ∀ (m : Nat) {l : List Nat}, l.Nodup → (∀ x ∈ l, x < m) → l.length ≤ m
  | 0, [], _, _ => Nat.le_refl _
  | 0, x :: _, _, h => absurd (h x List.mem_cons_self) (by omega)
  | m + 1, l, nd, h => by
    by_cases hm : m ∈ l
    · have h1 := nodup_lt m (l := l.erase m) (nd.erase m) fun x hx => by
        have := (nd.mem_erase_iff.mp hx)
        have := h x this.2
        have : x ≠ m := by first | exact (nd.mem_erase_iff.mp hx).1
        omega
      rw [List.length_erase_of_mem hm] at h1
      omega
    · have := nodup_lt m nd fun x hx => by
        have := h x hx
        have : x ≠ m := fun e => hm (e ▸ hx)
        omega
      omega
structure Bf (fs : List (List Key)) (d : Nat) (st : List (Key × Nat)) : Prop where
  nd : (st.map (·.1)).Nodup
  ky : ∀ p ∈ st, p.1 = chK ∨ ∃ s, s < fs.length ∧ p.1 = stK s
  ch : (chK, 0) ∈ st
  ds : ∀ s, s < fs.length → ∀ v, (stK s, v) ∈ st ↔ fstR fs d s = some v
theorem key_uni {st : List (Key × Nat)} {k : Key} {v w : Nat} (nd : (st.map (·.1)).Nodup) (h1 : (k, v) ∈ st) (h2 : (k, w) ∈ st) : v = w := by
  induction st with
  | nil => cases h1
  | cons p r ih =>
    rw [List.map_cons, List.nodup_cons] at nd
    rcases List.mem_cons.mp h1 with e1 | h1
    · rcases List.mem_cons.mp h2 with e2 | h2
      · exact (Prod.mk.inj (e1.trans e2.symm)).2
      · exact absurd (List.mem_map.mpr ⟨_, h2, by rw [← e1]⟩) nd.1
    · rcases List.mem_cons.mp h2 with e2 | h2
      · exact absurd (List.mem_map.mpr ⟨_, h1, by rw [← e2]⟩) nd.1
      · exact ih nd.2 h1 h2
theorem keys_len {fs : List (List Key)} {st : List (Key × Nat)} (nd : (st.map (·.1)).Nodup) (ky : ∀ p ∈ st, p.1 = chK ∨ ∃ s, s < fs.length ∧ p.1 = stK s) : st.length ≤ fs.length + 1 := by
  let code : Key → Nat := fun k => match k with | .inr _ => fs.length | .inl j => j.toNat
  have h1 : ((st.map (·.1)).map code).Nodup := by
    refine List.pairwise_map.mpr ?_
    refine List.Pairwise.imp_of_mem (fun {a c} ha hc hne => ?_) nd
    obtain ⟨p, hp, rfl⟩ := List.mem_map.mp ha
    obtain ⟨q, hq, rfl⟩ := List.mem_map.mp hc
    rcases ky p hp with e1 | ⟨s1, l1, e1⟩ <;> rcases ky q hq with e2 | ⟨s2, l2, e2⟩ <;> rw [e1, e2] at hne ⊢
    · exact absurd rfl hne
    · show fs.length ≠ ((s2 : Int)).toNat
      omega
    · show ((s1 : Int)).toNat ≠ fs.length
      omega
    · show ((s1 : Int)).toNat ≠ ((s2 : Int)).toNat
      intro e
      exact hne (by rw [show s1 = s2 by omega])
  have := nodup_lt (fs.length + 1) h1 fun x hx => by
    obtain ⟨k, hk, rfl⟩ := List.mem_map.mp hx
    obtain ⟨p, hp, rfl⟩ := List.mem_map.mp hk
    rcases ky p hp with e1 | ⟨s1, l1, e1⟩
    · rw [e1]; show fs.length < _; omega
    · rw [e1]; show ((s1 : Int)).toNat < _; omega
  simpa using this
theorem Bf.len {fs : List (List Key)} {d : Nat} {st : List (Key × Nat)} (b : Bf fs d st) : st.length ≤ fs.length + 1 := keys_len b.nd b.ky
theorem Bf.start {fs : List (List Key)} : Bf fs 0 [(chK, 0)] := by
  refine ⟨by simp, fun p hp => ?_, by simp, fun s hs v => ?_⟩
  · rw [List.mem_singleton.mp hp]; exact .inl rfl
  · have : fstR fs 0 s = none := fstR_none.mpr fun j hj => by rw [Nat.le_zero.mp hj]; rfl
    rw [this]
    constructor
    · intro h
      have := (Prod.mk.inj (List.mem_singleton.mp h)).1
      cases this
    · intro h; cases h
theorem rc_step {fs : List (List Key)} {d s : Nat} {k : Key} (hk : k ∈ fs.getD s []) (h : k = chK ∨ ∃ j, k = stK j ∧ rc fs d j = true) : rc fs (d + 1) s = true := by
  unfold rc
  rw [List.any_eq_true]
  refine ⟨k, hk, ?_⟩
  rcases h with rfl | ⟨j, rfl, h⟩
  · rfl
  · show rc fs d ((j : Int)).toNat = true
    rw [Int.toNat_natCast]
    exact h
theorem rc_back {fs : List (List Key)} {d s : Nat} (ok : FsOk fs) (hs : s < fs.length) (h : rc fs (d + 1) s = true) : ∃ k ∈ fs.getD s [], k = chK ∨ ∃ j, j < fs.length ∧ k = stK j ∧ rc fs d j = true := by
  have e : fs.getD s [] = fs[s] := by rw [List.getD_eq_getElem?_getD, List.getElem?_eq_getElem hs]; rfl
  unfold rc at h
  rw [List.any_eq_true] at h
  obtain ⟨k, hk, h⟩ := h
  refine ⟨k, hk, ?_⟩
  rw [e] at hk
  rcases ok.ky _ (List.getElem_mem hs) k hk with rfl | ⟨j, hj, rfl⟩
  · exact .inl rfl
  · refine .inr ⟨j, hj, rfl, ?_⟩
    have h : rc fs d ((j : Int)).toNat = true := h
    rwa [Int.toNat_natCast] at h
theorem Bf.step {fs : List (List Key)} {d : Nat} {st : List (Key × Nat)} {L nw : List Key} (ok : FsOk fs) (b : Bf fs d st) (hL : ∀ k, k ∈ L ↔ (k, d) ∈ st)
    (nd : ((st ++ nw.map fun k => (k, d + 1)).map (·.1)).Nodup) (hn : ∀ k ∈ nw, ∃ s, s < fs.length ∧ k = stK s ∧ ∃ q ∈ L, q ∈ fs.getD s [])
    (al : ∀ q ∈ L, ∀ s, s < fs.length → q ∈ fs.getD s [] → stK s ∈ (st ++ nw.map fun k => (k, d + 1)).map (·.1)) :
    Bf fs (d + 1) (st ++ nw.map fun k => (k, d + 1)) ∧ ∀ k, k ∈ nw ↔ (k, d + 1) ∈ st ++ nw.map fun k => (k, d + 1) := by
  have hq : ∀ q ∈ L, q = chK ∧ d = 0 ∨ ∃ j, j < fs.length ∧ q = stK j ∧ fstR fs d j = some d := fun q h => by
    have hm := (hL q).mp h
    rcases b.ky _ hm with e | ⟨j, hj, e⟩
    · have e : q = chK := e
      subst e
      exact .inl ⟨rfl, key_uni b.nd hm b.ch⟩
    · have e : q = stK j := e
      subst e
      exact .inr ⟨j, hj, rfl, (b.ds j hj d).mp hm⟩
  have no : ∀ k w, (k, w) ∈ st → k ∉ nw := fun k w h hk => by
    rw [List.map_append] at nd
    have := (List.nodup_append.mp nd).2.2 k (List.mem_map.mpr ⟨_, h, rfl⟩) k (List.mem_map.mpr ⟨_, List.mem_map.mpr ⟨k, hk, rfl⟩, rfl⟩)
    exact this rfl
  have inn : ∀ k v, (k, v) ∈ nw.map (fun k => (k, d + 1)) ↔ k ∈ nw ∧ v = d + 1 := fun k v => by
    rw [List.mem_map]
    constructor
    · rintro ⟨k', h, e⟩
      obtain ⟨rfl, rfl⟩ := Prod.mk.inj e
      exact ⟨h, rfl⟩
    · rintro ⟨h, rfl⟩
      exact ⟨k, h, rfl⟩
  have rn : ∀ s, s < fs.length → stK s ∈ nw → rc fs (d + 1) s = true := fun s hs h => by
    obtain ⟨s', hs', e, q, hqL, hqs⟩ := hn _ h
    rw [← stK_inj e] at hqs
    rcases hq q hqL with ⟨rfl, rfl⟩ | ⟨j, hj, rfl, hf⟩
    · exact rc_step hqs (.inl rfl)
    · exact rc_step hqs (.inr ⟨j, rfl, (fstR_some.mp hf).2.1⟩)
  refine ⟨⟨nd, fun p hp => ?_, List.mem_append_left _ b.ch, fun s hs v => ?_⟩, fun k => ?_⟩
  · rcases List.mem_append.mp hp with hp | hp
    · exact b.ky p hp
    · obtain ⟨k, hk, rfl⟩ := List.mem_map.mp hp
      obtain ⟨s, hs, e, _⟩ := hn k hk
      exact .inr ⟨s, hs, e⟩
  · rw [List.mem_append, inn, b.ds s hs v]
    constructor
    · rintro (h | ⟨h, rfl⟩)
      · obtain ⟨h1, h2, h3⟩ := fstR_some.mp h
        exact fstR_some.mpr ⟨by omega, h2, h3⟩
      · refine fstR_some.mpr ⟨Nat.le_refl _, rn s hs h, fun j hj => ?_⟩
        cases e : rc fs j s with
        | false => rfl
        | true =>
          obtain ⟨v, hv, ev⟩ := fstR_of (rc_le (show j ≤ d by omega) e)
          exact absurd h (no _ _ ((b.ds s hs v).mpr ev))
    · intro h
      obtain ⟨h1, h2, h3⟩ := fstR_some.mp h
      by_cases hv : v ≤ d
      · exact .inl (fstR_some.mpr ⟨hv, h2, h3⟩)
      · have ev : v = d + 1 := by omega
        subst ev
        refine .inr ⟨?_, rfl⟩
        have fn : ∀ w, (stK s, w) ∉ st := fun w hw => by
          obtain ⟨w1, w2, _⟩ := fstR_some.mp ((b.ds s hs w).mp hw)
          rw [h3 w (by omega)] at w2
          cases w2
        obtain ⟨k, hk, hc⟩ := rc_back ok hs h2
        have kL : k ∈ L := by
          rw [hL]
          rcases hc with rfl | ⟨j, hj, rfl, hr⟩
          · have d0 : d = 0 := by
              cases d with
              | zero => rfl
              | succ d' =>
                have := h3 1 (by omega)
                rw [rc_step (d := 0) hk (.inl rfl)] at this
                cases this
            subst d0
            exact b.ch
          · obtain ⟨v', hv', ev'⟩ := fstR_of hr
            have : v' = d := by
              rcases Nat.lt_or_ge v' d with z | z
              · have := h3 (v' + 1) (by omega)
                rw [rc_step (d := v') hk (.inr ⟨j, rfl, (fstR_some.mp ev').2.1⟩)] at this
                cases this
              · omega
            rw [this] at ev'
            exact (b.ds j hj d).mpr ev'
        have := al k kL s hs hk
        rw [List.map_append, List.mem_append] at this
        rcases this with h' | h'
        · obtain ⟨⟨k', w⟩, hp, e⟩ := List.mem_map.mp h'
          have e : k' = stK s := e
          subst e
          exact absurd hp (fn w)
        · obtain ⟨p, hp, e⟩ := List.mem_map.mp h'
          obtain ⟨k', hk', rfl⟩ := List.mem_map.mp hp
          have e : k' = stK s := e
          exact e ▸ hk'
  · rw [List.mem_append, inn]
    constructor
    · exact fun h => .inr ⟨h, rfl⟩
    · rintro (h | h)
      · rcases b.ky _ h with e | ⟨s, hs, e⟩
        · have e : k = chK := e
          subst e
          have := key_uni b.nd h b.ch
          cases this
        · have e : k = stK s := e
          subst e
          have := (fstR_some.mp ((b.ds s hs _).mp h)).1
          omega
      · exact h.1
theorem Bf.fin {fs : List (List Key)} {d : Nat} {st : List (Key × Nat)} (ok : FsOk fs) (b : Bf fs d st) (hL : ∀ k, (k, d) ∉ st) {t s : Nat} (ht : d ≤ t) (hs : s < fs.length) : fstR fs t s = fstR fs d s := by
  have d0 : d ≠ 0 := fun e => hL chK (e ▸ b.ch)
  obtain ⟨c, rfl⟩ : ∃ c, d = c + 1 := ⟨d - 1, by omega⟩
  have st1 : ∀ s, s < fs.length → rc fs (c + 1) s = true → rc fs c s = true := fun s hs h => by
    obtain ⟨v, hv, ev⟩ := fstR_of h
    have : v ≠ c + 1 := fun e => hL (stK s) ((b.ds s hs _).mpr (e ▸ ev))
    exact rc_le (by omega) (fstR_some.mp ev).2.1
  have st2 : ∀ u s, s < fs.length → rc fs (c + u) s = true → rc fs c s = true := by
    intro u
    induction u with
    | zero => intro s _ h; exact h
    | succ u ih =>
      intro s hs h
      obtain ⟨k, hk, hc⟩ := rc_back ok hs (show rc fs (c + u + 1) s = true from h)
      refine st1 s hs (rc_step hk ?_)
      rcases hc with rfl | ⟨j, hj, rfl, hr⟩
      · exact .inl rfl
      · exact .inr ⟨j, rfl, ih j hj hr⟩
  cases e : fstR fs t s with
  | some v =>
    obtain ⟨h1, h2, h3⟩ := fstR_some.mp e
    refine (fstR_some.mpr ⟨?_, h2, h3⟩).symm
    rcases Nat.lt_or_ge (c + 1) v with z | z
    · have := st2 (v - c) s hs (by rw [show c + (v - c) = v by omega]; exact h2)
      rw [h3 c (by omega)] at this
      cases this
    · exact z
  | none => exact (fstR_none.mpr fun j hj => fstR_none.mp e j (by omega)).symm
theorem dkGo_of {α : Type} {g : SG} {fk fv : SA} {vs : List Nat} {Γ0 : List S} {F : α → D} (r : α → Key × D) : ∀ {xs : List α} {acc : List (Key × D)} {κ : List (Key × D) → List S → Prop},
    (∀ x ∈ xs, ∀ (Y : Arg → Arg → List S → Prop), Y (.val (keyD (r x).1)) (.val (r x).2) Γ0 → g (F x) Γ0 fun Γ1 => fk Γ1 (fun a Γ3 => fv Γ3 (fun e Γ4 => Y a e (clr vs Γ4)) noX) noX) →
    ((acc ++ xs.map r).map (·.1)).Nodup → κ (acc ++ xs.map r) Γ0 → dkGo g cYes fk fv vs (xs.map F) acc Γ0 κ
  | [], acc, κ, _, _, h => by rw [List.map_nil, List.append_nil] at h; exact h
  | x :: xs, acc, κ, hs, nd, h => by
    rw [List.map_cons]
    unfold dkGo
    have e : acc ++ (x :: xs).map r = (acc ++ [r x]) ++ xs.map r := by rw [List.map_cons, List.append_assoc]; rfl
    have fresh : ∀ p ∈ acc, p.1 ≠ (r x).1 := fun p hp z => by
      rw [List.map_append] at nd
      exact (List.nodup_append.mp nd).2.2 p.1 (List.mem_map.mpr ⟨p, hp, rfl⟩) (r x).1 (by rw [List.map_cons, List.map_cons]; exact List.mem_cons_self) z
    have ih := dkGo_of (κ := κ) r (xs := xs) (acc := acc ++ [r x]) (fun y hy => hs y (List.mem_cons_of_mem _ hy)) (by rw [← e]; exact nd) (by rw [← e]; exact h)
    exact hs x List.mem_cons_self (fun a e Γ => ∃ k y, a = .val (keyD k) ∧ e = .val y ∧ (∀ p ∈ acc, p.1 ≠ k) ∧ dkGo g cYes fk fv vs (xs.map F) (acc ++ [(k, y)]) Γ κ) ⟨_, _, rfl, rfl, fresh, ih⟩
end L3
namespace L3
open PySem PySem.Spec PyProof.Rows L2
/-! ### the defs of the text -/
def top (i : Nat) : Stmt := PySem.Challenge.pw_fragweave_k59_how_soon_values_change.main.body.getD i (.Pass ⟨0, 0, 0, 0⟩)
abbrev st_turned_round : Stmt := top 1
abbrev N_turned_round : List Str := ["follows", "ahead", "node", "follower"]
theorem sc_turned_round : FnScope N_turned_round ["follows"] (defScope st_turned_round) := ⟨rfl, rfl, rfl, by decide +kernel, rfl, by decide +kernel, by decide +kernel⟩
abbrev st_fewest_steps : Stmt := top 2
abbrev N_fewest_steps : List Str := ["follows", "goals", "ahead", "steps", "goal", "layer", "behind", "node", "other"]
theorem sc_fewest_steps : FnScope N_fewest_steps ["follows", "goals"] (defScope st_fewest_steps) := ⟨rfl, rfl, rfl, by decide +kernel, rfl, by decide +kernel, by decide +kernel⟩
abbrev st_is_change : Stmt := top 7
abbrev N_is_change : List Str := ["entry", "number"]
theorem sc_is_change : FnScope N_is_change ["entry", "number"] (defScope st_is_change) := ⟨rfl, rfl, rfl, by decide +kernel, rfl, by decide +kernel, by decide +kernel⟩
abbrev st_takes_never : Stmt := top 8
abbrev N_takes_never : List Str := ["begin", "end", "value"]
theorem sc_takes_never : FnScope N_takes_never ["begin", "end", "value"] (defScope st_takes_never) := ⟨rfl, rfl, rfl, by decide +kernel, rfl, by decide +kernel, by decide +kernel⟩
abbrev st_takes_always : Stmt := top 9
abbrev N_takes_always : List Str := ["begin", "end", "value"]
theorem sc_takes_always : FnScope N_takes_always ["begin", "end", "value"] (defScope st_takes_always) := ⟨rfl, rfl, rfl, by decide +kernel, rfl, by decide +kernel, by decide +kernel⟩
abbrev st_takes_begins : Stmt := top 10
abbrev N_takes_begins : List Str := ["begin", "end", "value"]
theorem sc_takes_begins : FnScope N_takes_begins ["begin", "end", "value"] (defScope st_takes_begins) := ⟨rfl, rfl, rfl, by decide +kernel, rfl, by decide +kernel, by decide +kernel⟩
abbrev st_takes_ends : Stmt := top 11
abbrev N_takes_ends : List Str := ["begin", "end", "value"]
theorem sc_takes_ends : FnScope N_takes_ends ["begin", "end", "value"] (defScope st_takes_ends) := ⟨rfl, rfl, rfl, by decide +kernel, rfl, by decide +kernel, by decide +kernel⟩
abbrev st_takes_cover : Stmt := top 12
abbrev N_takes_cover : List Str := ["begin", "end", "value"]
theorem sc_takes_cover : FnScope N_takes_cover ["begin", "end", "value"] (defScope st_takes_cover) := ⟨rfl, rfl, rfl, by decide +kernel, rfl, by decide +kernel, by decide +kernel⟩
abbrev st_takes_inner : Stmt := top 13
abbrev N_takes_inner : List Str := ["begin", "end", "value"]
theorem sc_takes_inner : FnScope N_takes_inner ["begin", "end", "value"] (defScope st_takes_inner) := ⟨rfl, rfl, rfl, by decide +kernel, rfl, by decide +kernel, by decide +kernel⟩
abbrev st_takes_least : Stmt := top 14
abbrev N_takes_least : List Str := ["begin", "end", "value"]
theorem sc_takes_least : FnScope N_takes_least ["begin", "end", "value"] (defScope st_takes_least) := ⟨rfl, rfl, rfl, by decide +kernel, rfl, by decide +kernel, by decide +kernel⟩
abbrev st_takes_ranked : Stmt := top 15
abbrev N_takes_ranked : List Str := ["begin", "end", "value"]
theorem sc_takes_ranked : FnScope N_takes_ranked ["begin", "end", "value"] (defScope st_takes_ranked) := ⟨rfl, rfl, rfl, by decide +kernel, rfl, by decide +kernel, by decide +kernel⟩
abbrev st_one_state : Stmt := top 17
abbrev N_one_state : List Str := ["rule", "takes", "begin", "end", "value", "new"]
theorem sc_one_state : FnScope N_one_state ["rule"] (defScope st_one_state) := ⟨rfl, rfl, rfl, by decide +kernel, rfl, by decide +kernel, by decide +kernel⟩
abbrev st_state_by_value : Stmt := top 18
abbrev N_state_by_value : List Str := ["equal", "other"]
theorem sc_state_by_value : FnScope N_state_by_value ["equal", "other"] (defScope st_state_by_value) := ⟨rfl, rfl, rfl, by decide +kernel, rfl, by decide +kernel, by decide +kernel⟩
abbrev st_vote_table : Stmt := top 19
abbrev N_vote_table : List Str := []
theorem sc_vote_table : FnScope N_vote_table [] (defScope st_vote_table) := ⟨rfl, rfl, rfl, by decide +kernel, rfl, by decide +kernel, by decide +kernel⟩
abbrev st_most_table : Stmt := top 20
abbrev N_most_table : List Str := []
theorem sc_most_table : FnScope N_most_table [] (defScope st_most_table) := ⟨rfl, rfl, rfl, by decide +kernel, rfl, by decide +kernel, by decide +kernel⟩
abbrev st_told_table : Stmt := top 21
abbrev N_told_table : List Str := ["name", "rule"]
theorem sc_told_table : FnScope N_told_table ["name"] (defScope st_told_table) := ⟨rfl, rfl, rfl, by decide +kernel, rfl, by decide +kernel, by decide +kernel⟩
abbrev st_followers_in : Stmt := top 24
abbrev N_followers_in : List Str := ["entries", "number", "entry"]
theorem sc_followers_in : FnScope N_followers_in ["entries"] (defScope st_followers_in) := ⟨rfl, rfl, rfl, by decide +kernel, rfl, by decide +kernel, by decide +kernel⟩
abbrev st_distances : Stmt := top 25
abbrev N_distances : List Str := ["table", "follows", "state", "entries", "steps"]
theorem sc_distances : FnScope N_distances ["table"] (defScope st_distances) := ⟨rfl, rfl, rfl, by decide +kernel, rfl, by decide +kernel, by decide +kernel⟩
abbrev st_settled : Stmt := top 26
abbrev N_settled : List Str := ["table", "state", "distance"]
theorem sc_settled : FnScope N_settled ["table"] (defScope st_settled) := ⟨rfl, rfl, rfl, by decide +kernel, rfl, by decide +kernel, by decide +kernel⟩
abbrev st__law_stream : Stmt := top 28
abbrev N__law_stream : List Str := ["_law_script", "_law_cells", "_law_mixed", "_law_cell"]
theorem sc__law_stream : FnScope N__law_stream ["_law_script"] (defScope st__law_stream) := ⟨rfl, rfl, rfl, by decide +kernel, rfl, by decide +kernel, by decide +kernel⟩
abbrev st__law_draw : Stmt := top 29
abbrev N__law_draw : List Str := ["_law_stream_here", "_law_many", "_law_cell", "_law_mixed"]
theorem sc__law_draw : FnScope N__law_draw ["_law_stream_here", "_law_many"] (defScope st__law_draw) := ⟨rfl, rfl, rfl, by decide +kernel, rfl, by decide +kernel, by decide +kernel⟩
abbrev st__law_pick : Stmt := top 30
abbrev N__law_pick : List Str := ["_law_stream_here", "_law_items"]
theorem sc__law_pick : FnScope N__law_pick ["_law_stream_here", "_law_items"] (defScope st__law_pick) := ⟨rfl, rfl, rfl, by decide +kernel, rfl, by decide +kernel, by decide +kernel⟩
abbrev st__law_names : Stmt := top 31
abbrev N__law_names : List Str := []
theorem sc__law_names : FnScope N__law_names [] (defScope st__law_names) := ⟨rfl, rfl, rfl, by decide +kernel, rfl, by decide +kernel, by decide +kernel⟩
abbrev st__law_table : Stmt := top 32
abbrev N__law_table : List Str := ["_law_stream_here", "_law_table_here", "_law_way", "_law_many", "_law_lines", "_law_state", "_law_k", "_law_row", "_law_number"]
theorem sc__law_table : FnScope N__law_table ["_law_stream_here"] (defScope st__law_table) := ⟨rfl, rfl, rfl, by decide +kernel, rfl, by decide +kernel, by decide +kernel⟩
abbrev st__law_twin : Stmt := top 33
abbrev N__law_twin : List Str := ["_law_stream_here", "_law_table_here", "_law_many", "_law_way", "_law_ways", "_law_row", "_law_who", "_law_later", "_law_k", "_law_order", "_law_state"]
theorem sc__law_twin : FnScope N__law_twin ["_law_stream_here", "_law_table_here"] (defScope st__law_twin) := ⟨rfl, rfl, rfl, by decide +kernel, rfl, by decide +kernel, by decide +kernel⟩
abbrev st__law_calm : Stmt := top 34
abbrev N__law_calm : List Str := ["_law_stream_here", "_law_many", "_law_found", "_law_state", "_law_line", "_law_k"]
theorem sc__law_calm : FnScope N__law_calm ["_law_stream_here"] (defScope st__law_calm) := ⟨rfl, rfl, rfl, by decide +kernel, rfl, by decide +kernel, by decide +kernel⟩
abbrev st__law_falling : Stmt := top 35
abbrev N__law_falling : List Str := ["_law_stream_here", "_law_many", "_law_found", "_law_state", "_law_line", "_law_k", "_law_later", "_law_is_new"]
theorem sc__law_falling : FnScope N__law_falling ["_law_stream_here"] (defScope st__law_falling) := ⟨rfl, rfl, rfl, by decide +kernel, rfl, by decide +kernel, by decide +kernel⟩
abbrev st__law_some : Stmt := top 36
abbrev N__law_some : List Str := ["_law_stream_here", "_law_way", "_law_table_here"]
theorem sc__law_some : FnScope N__law_some ["_law_stream_here"] (defScope st__law_some) := ⟨rfl, rfl, rfl, by decide +kernel, rfl, by decide +kernel, by decide +kernel⟩
abbrev st__law_is_change : Stmt := top 37
abbrev N__law_is_change : List Str := ["_law_number", "_law_entry"]
theorem sc__law_is_change : FnScope N__law_is_change ["_law_number", "_law_entry"] (defScope st__law_is_change) := ⟨rfl, rfl, rfl, by decide +kernel, rfl, by decide +kernel, by decide +kernel⟩
abbrev st__law_far : Stmt := top 38
abbrev N__law_far : List Str := ["_law_table_here", "_law_found", "_law_turn", "_law_more", "_law_line", "_law_some_here", "_law_who", "_law_later", "_law_is_near", "_law_number", "_law_entry"]
theorem sc__law_far : FnScope N__law_far ["_law_table_here"] (defScope st__law_far) := ⟨rfl, rfl, rfl, by decide +kernel, rfl, by decide +kernel, by decide +kernel⟩
abbrev st_law : Stmt := top 39
abbrev N_law : List Str := ["_law_script", "_law_stream_here", "_law_turn", "_law_table_here", "_law_shown", "_law_due", "_law_sure", "_law_state", "_law_told", "_law_who", "_law_later", "_law_chain", "_law_some_here", "_law_name"]
theorem sc_law : FnScope N_law ["_law_script"] (defScope st_law) := ⟨rfl, rfl, rfl, by decide +kernel, rfl, by decide +kernel, by decide +kernel⟩
structure Txt (K : PySem.W.Frag) (mg : Str → Option Value) (w : World) : Type where
  b_abs : mg "abs" = none
  b_enumerate : mg "enumerate" = none
  b_int : mg "int" = none
  b_isinstance : mg "isinstance" = none
  b_len : mg "len" = none
  b_list : mg "list" = none
  b_min : mg "min" = none
  b_range : mg "range" = none
  b_repr : mg "repr" = none
  b_str : mg "str" = none
  b_tuple : mg "tuple" = none
  t_SIGNS : TupG K mg "SIGNS" ["<", "=", ">"]
  d_RULES : DctG K mg w "RULES" [("first", "takes_never"), ("last", "takes_always"), ("begins", "takes_begins"), ("ends", "takes_ends"), ("cover", "takes_cover"), ("inner", "takes_inner"), ("least", "takes_least"), ("ranked", "takes_ranked")]
  g_CHANGED : ∃ t, mg "CHANGED" = some (.str "changed" t)
  turned_round : Df K mg "turned_round" st_turned_round ["follows"]
  fewest_steps : Df K mg "fewest_steps" st_fewest_steps ["follows", "goals"]
  is_change : Df K mg "is_change" st_is_change ["entry", "number"]
  takes_never : Df K mg "takes_never" st_takes_never ["begin", "end", "value"]
  takes_always : Df K mg "takes_always" st_takes_always ["begin", "end", "value"]
  takes_begins : Df K mg "takes_begins" st_takes_begins ["begin", "end", "value"]
  takes_ends : Df K mg "takes_ends" st_takes_ends ["begin", "end", "value"]
  takes_cover : Df K mg "takes_cover" st_takes_cover ["begin", "end", "value"]
  takes_inner : Df K mg "takes_inner" st_takes_inner ["begin", "end", "value"]
  takes_least : Df K mg "takes_least" st_takes_least ["begin", "end", "value"]
  takes_ranked : Df K mg "takes_ranked" st_takes_ranked ["begin", "end", "value"]
  one_state : Df K mg "one_state" st_one_state ["rule"]
  state_by_value : Df K mg "state_by_value" st_state_by_value ["equal", "other"]
  vote_table : Df K mg "vote_table" st_vote_table []
  most_table : Df K mg "most_table" st_most_table []
  told_table : Df K mg "told_table" st_told_table ["name"]
  followers_in : Df K mg "followers_in" st_followers_in ["entries"]
  distances : Df K mg "distances" st_distances ["table"]
  settled : Df K mg "settled" st_settled ["table"]
  _law_stream : Df K mg "_law_stream" st__law_stream ["_law_script"]
  _law_draw : Df K mg "_law_draw" st__law_draw ["_law_stream_here", "_law_many"]
  _law_pick : Df K mg "_law_pick" st__law_pick ["_law_stream_here", "_law_items"]
  _law_names : Df K mg "_law_names" st__law_names []
  _law_table : Df K mg "_law_table" st__law_table ["_law_stream_here"]
  _law_twin : Df K mg "_law_twin" st__law_twin ["_law_stream_here", "_law_table_here"]
  _law_calm : Df K mg "_law_calm" st__law_calm ["_law_stream_here"]
  _law_falling : Df K mg "_law_falling" st__law_falling ["_law_stream_here"]
  _law_some : Df K mg "_law_some" st__law_some ["_law_stream_here"]
  _law_is_change : Df K mg "_law_is_change" st__law_is_change ["_law_number", "_law_entry"]
  _law_far : Df K mg "_law_far" st__law_far ["_law_table_here"]
  law : Df K mg "law" st_law ["_law_script"]

end L3
namespace L3
open PySem PySem.Spec PyProof.Rows L2
section
variable {P : Program} {w : World} {K : PySem.W.Frag} {mg : Str → Option Value} {base : Heap}
def foD (fs : List (List Key)) : List (Key × D) := (List.range fs.length).map fun s => (stK s, .lst ((fs.getD s []).map keyD))
theorem look_st {g : Nat → D} {i : Nat} : ∀ {l : List Nat}, i ∈ l → lookD (l.map fun s => (stK s, g s)) (stK i) = some (g i)
  | [], h => nomatch h
  | s :: l, h => by
    rw [List.map_cons]
    unfold lookD
    by_cases e : s = i
    · subst e
      simp
    · have ne : ¬ stK s = stK i := fun z => e (by
        have := Sum.inl.inj z
        omega)
      have ih := look_st (g := g) ((List.mem_cons.mp h).resolve_left (Ne.symm e))
      unfold lookD at ih
      rw [List.find?_cons, decide_eq_false ne]
      exact ih
def AhP (ah : List (Key × List Nat)) (P : Key → Nat → Prop) : Prop := (ah.map (·.1)).Nodup ∧ ∀ k s, (∃ l, (k, l) ∈ ah ∧ s ∈ l) ↔ P k s
def ahD (ah : List (Key × List Nat)) : List (Key × D) := ah.map fun p => (p.1, .lst (p.2.map fun s => .int (s : Nat)))
def ahO (ah : List (Key × List Nat)) : O := .dc (ah.map (·.1)) (ah.map fun p => .ls (p.2.map fun s => .int (s : Nat)))
def c_turned_round : SE := fun Γ κ _ => ∃ fs : List (List Key), Γ = [.v (.dil (foD fs))] ∧ fs.length ≤ 1000 ∧ (∀ f ∈ fs, f.length ≤ 1000) ∧ ∀ ah, AhP ah (fun k s => s < fs.length ∧ k ∈ fs.getD s []) → κ (.leaf (.dic (ahD ah))) Γ
theorem ahO_fz {ah : List (Key × List Nat)} : (ahO ah).fz = .dic (ahD ah) := by
  unfold ahO ahD
  rw [O.fz, fzs_map, List.map_map]
  congr 1
  rw [List.zip_map', Function.comp_def]
  rfl
theorem AhP.put {ah : List (Key × List Nat)} {P : Key → Nat → Prop} (h : AhP ah P) (kk : Key) (i : Nat) : match ixK (ah.map (·.1)) kk with
    | some m => ∃ l, ah[m]? = some (kk, l) ∧ AhP (ah.set m (kk, l ++ [i])) (fun k s => P k s ∨ (k = kk ∧ s = i))
    | none => AhP (ah ++ [(kk, [i])]) (fun k s => P k s ∨ (k = kk ∧ s = i)) := by
  obtain ⟨nd, it⟩ := h
  cases e : ixK (ah.map (·.1)) kk with
  | some m =>
    have hm := ixK_some e
    rw [List.getElem?_map] at hm
    cases hq : ah[m]? with
    | none => rw [hq] at hm; cases hm
    | some q =>
      rw [hq] at hm
      obtain ⟨k0, l⟩ := q
      have : k0 = kk := by simpa using hm
      subst this
      have hml : m < ah.length := (List.getElem?_eq_some_iff.mp hq).1
      have emap : (ah.set m (k0, l ++ [i])).map (·.1) = ah.map (·.1) := by
        rw [List.map_set]
        refine List.ext_getElem? fun j => ?_
        by_cases hj : j = m
        · subst hj
          rw [List.getElem?_set_self (by simpa using hml), List.getElem?_map, hq]
          rfl
        · rw [List.getElem?_set_ne (Ne.symm hj)]
      have uni : ∀ l', (k0, l') ∈ ah → l' = l := fun l' h' => by
        obtain ⟨j, hj⟩ := List.mem_iff_getElem?.mp h'
        have ej : (ah.map (·.1))[j]? = some k0 := by rw [List.getElem?_map, hj]; rfl
        have em : (ah.map (·.1))[m]? = some k0 := by rw [List.getElem?_map, hq]; rfl
        obtain ⟨bj, vj⟩ := List.getElem?_eq_some_iff.mp ej
        obtain ⟨bm, vm⟩ := List.getElem?_eq_some_iff.mp em
        have pw := List.pairwise_iff_getElem.mp nd
        have jm : j = m := by
          rcases Nat.lt_trichotomy j m with z | z | z
          · exact absurd (vj.trans vm.symm) (pw j m bj bm z)
          · exact z
          · exact absurd (vm.trans vj.symm) (pw m j bm bj z)
        subst jm
        rw [hj] at hq
        have := Option.some.inj hq
        exact (Prod.mk.inj this).2
      refine ⟨l, hq, ⟨by rw [emap]; exact nd, fun k s => ?_⟩⟩
      show _ ↔ (P k s ∨ (k = k0 ∧ s = i))
      rw [← it k s]
      constructor
      · rintro ⟨l', h', hs⟩
        rcases List.mem_or_eq_of_mem_set h' with h' | h'
        · exact .inl ⟨l', h', hs⟩
        · obtain ⟨rfl, rfl⟩ := Prod.mk.inj h'
          rcases List.mem_append.mp hs with hs | hs
          · exact .inl ⟨l, List.mem_of_getElem? hq, hs⟩
          · exact .inr ⟨rfl, by simpa using hs⟩
      · rintro (⟨l', h', hs⟩ | ⟨rfl, rfl⟩)
        · by_cases hk : k = k0
          · subst hk
            rw [uni l' h'] at hs
            exact ⟨l ++ [i], List.mem_of_getElem? (List.getElem?_set_self hml), List.mem_append_left _ hs⟩
          · obtain ⟨j, hj⟩ := List.mem_iff_getElem?.mp h'
            have jm : j ≠ m := fun z => by subst z; rw [hj] at hq; exact hk (Prod.mk.inj (Option.some.inj hq)).1
            exact ⟨l', List.mem_of_getElem? ((List.getElem?_set_ne (Ne.symm jm)).trans hj), hs⟩
        · exact ⟨l ++ [s], List.mem_of_getElem? (List.getElem?_set_self hml), by simp⟩
  | none =>
    have hn := ixK_none e
    refine ⟨by rw [List.map_append]; exact List.nodup_append.mpr ⟨nd, by simp, fun a ha b hb hab => hn (by
      have : b = kk := by simpa using hb
      exact this ▸ hab ▸ ha)⟩, fun k s => ?_⟩
    show _ ↔ (P k s ∨ (k = kk ∧ s = i))
    rw [← it k s]
    constructor
    · rintro ⟨l', h', hs⟩
      rcases List.mem_append.mp h' with h' | h'
      · exact .inl ⟨l', h', hs⟩
      · obtain ⟨rfl, rfl⟩ := Prod.mk.inj (List.mem_singleton.mp h')
        exact .inr ⟨rfl, by simpa using hs⟩
    · rintro (⟨l', h', hs⟩ | ⟨rfl, rfl⟩)
      · exact ⟨l', List.mem_append_left _ h', hs⟩
      · exact ⟨[s], List.mem_append_right _ (by simp), by simp⟩
theorem AhP.imp {ah : List (Key × List Nat)} {P Q : Key → Nat → Prop} (h : AhP ah P) (e : ∀ k s, P k s ↔ Q k s) : AhP ah Q := ⟨h.1, fun k s => (h.2 k s).trans (e k s)⟩

theorem ok_turned_round (T : Txt K mg w) : FnG P w K mg base 1 T.turned_round.f T.turned_round.fd ["follows"] (spF K 1 c_turned_round) := by
  have nd := sc_turned_round.nd
  refine fn_imp (fn_L3 (k := 0) T.turned_round.F sc_turned_round rfl (by decide) fun cdv A outer s H vs Q E hr gd => (ssj_cons (sj_own (i := 1) nd rfl (Or.inl rfl) ej_dc0)
    (ssj_cons (sj_for (ws := [2]) (passes_of rfl) rfl (ij_keys (aj_v (pv 0))) (gj_name (pg_name (i := 2) nd rfl (Or.inl rfl)) (by simp)) (ssj_one (sj_for (ws := [3]) (passes_of rfl) rfl (ij_seq (aj_e (ej_fgetI (hu1 hr) (pv 0) (aj_v (pv 2)) (fun _ _ => rfl)))) (gj_name (pg_name (i := 3) nd rfl (Or.inl rfl)) (by simp)) (ssj_one (sj_kapp (pv 1) (aj_v (pv 3)) (pv 2))))))
    (ssj_one (sj_ret (ej_var (pv 1))))))) ?_
  rintro Γ κ Ex ⟨fs, rfl, hl, hf, h⟩
  have hz := sizeLine_eq
  have eks : (foD fs).map (keyD ∘ fun x => x.fst) = (List.range fs.length).map fun s => D.int (s : Nat) := by
    unfold foD
    rw [List.map_map]
    rfl
  simp
  rw [eks]
  refine forGo_inv (fun i Γ => ∃ ah s2 s3, Γ = [.v (.dil (foD fs)), .o none (ahO ah), s2, s3] ∧ AhP ah (fun k s => s < i ∧ s < fs.length ∧ k ∈ fs.getD s []) ∧ ah.length ≤ i * 1000 ∧ ∀ p ∈ ah, p.2.length ≤ i * 1000) ?_ ⟨[], _, _, rfl, ⟨List.nodup_nil, fun k s => by simp⟩, by simp, fun _ h => nomatch h⟩ ?_
  · rintro i d hd Γ ⟨ah, s2, s3, rfl, P0, l1, l2⟩ N hN
    rw [List.getElem?_map] at hd
    obtain ⟨i', hi', rfl⟩ := Option.map_eq_some_iff.mp hd
    obtain ⟨hi, ei⟩ := List.getElem?_eq_some_iff.mp hi'
    rw [List.getElem_range] at ei
    subst ei
    rw [List.length_range] at hi
    have fi : fs.getD i [] = fs[i] := by rw [List.getD_eq_getElem?_getD, List.getElem?_eq_getElem hi]; rfl
    have lf := hf _ (List.getElem_mem hi)
    have lk : lookD (foD fs) (stK i) = some (.lst (fs[i].map keyD)) := by
      have := look_st (g := fun s => .lst ((fs.getD s []).map keyD)) (List.mem_range.mpr hi)
      rw [fi] at this
      exact this
    have il : i * 1000 ≤ 1000000 := by omega
    simp
    refine ⟨foD fs, .inr rfl, stK i, rfl, _, lk, ?_⟩
    simp
    refine forGo_inv (fun j Γ => ∃ ah s3, Γ = [.v (.dil (foD fs)), .o none (ahO ah), .v (.int (i : Nat)), s3] ∧ AhP ah (fun k s => (s < i ∧ s < fs.length ∧ k ∈ fs.getD s []) ∨ (s = i ∧ k ∈ fs[i].take j)) ∧ ah.length ≤ i * 1000 + j ∧ ∀ p ∈ ah, p.2.length ≤ i * 1000 + j) ?_ ⟨ah, _, rfl, P0.imp fun k s => by simp, by omega, fun p hp => by have := l2 p hp; omega⟩ ?_
    · rintro j d hd Γ ⟨ah, s3, rfl, P1, l1, l2⟩ N hN
      rw [List.getElem?_map] at hd
      obtain ⟨kk, hkk, rfl⟩ := Option.map_eq_some_iff.mp hd
      obtain ⟨hj, ej⟩ := List.getElem?_eq_some_iff.mp hkk
      have nxt := take_snoc hj
      rw [ej] at nxt
      have pt := P1.put kk i
      have step : ∀ {ah'}, AhP ah' (fun k s => ((s < i ∧ s < fs.length ∧ k ∈ fs.getD s []) ∨ (s = i ∧ k ∈ fs[i].take j)) ∨ (k = kk ∧ s = i)) → AhP ah' (fun k s => (s < i ∧ s < fs.length ∧ k ∈ fs.getD s []) ∨ (s = i ∧ k ∈ fs[i].take (j + 1))) := fun q => q.imp fun k s => by
        rw [nxt, List.mem_append, List.mem_singleton]
        constructor
        · rintro ((z | ⟨z1, z2⟩) | ⟨z1, z2⟩)
          · exact .inl z
          · exact .inr ⟨z1, .inl z2⟩
          · exact .inr ⟨z2, .inr z1⟩
        · rintro (z | ⟨z1, z2 | z2⟩)
          · exact .inl (.inl z)
          · exact .inl (.inr ⟨z1, z2⟩)
          · exact .inr ⟨z2, z1⟩
      have hjb : j < 1000 := by omega
      simp
      refine ⟨⟨_, _, rfl⟩, kk, rfl, none, _, _, ⟨rfl, rfl⟩, by rw [List.length_map, hz]; omega, ?_⟩
      cases e : ixK (ah.map (·.1)) kk with
      | some m =>
        rw [e] at pt
        obtain ⟨l, hq, pt⟩ := pt
        have ml := l2 _ (List.mem_of_getElem? hq)
        have hml : m < ah.length := (List.getElem?_eq_some_iff.mp hq).1
        simp only at ml
        refine ⟨l.map fun s => .int (s : Nat), by rw [List.getElem?_map, hq]; rfl, by rw [List.length_map, hz]; omega, ?_⟩
        have eo : ahO (ah.set m (kk, l ++ [i])) = .dc (ah.map (·.1)) ((ah.map fun p => O.ls (p.2.map fun s => D.int ((s : Nat) : Int))).set m (.ls ((l.map fun s => D.int ((s : Nat) : Int)) ++ [.int (i : Nat)]))) := by
          unfold ahO
          rw [List.map_set, List.map_set, List.map_append]
          congr 1
          refine List.ext_getElem? fun x => ?_
          by_cases hx : x = m
          · subst hx
            rw [List.getElem?_set_self (by simpa using hml), List.getElem?_map, hq]
            rfl
          · rw [List.getElem?_set_ne (Ne.symm hx)]
        have := hN _ ⟨ah.set m (kk, l ++ [i]), .v (keyD kk), rfl, step pt, by rw [List.length_set]; omega, fun p hp => by
          rcases List.mem_or_eq_of_mem_set hp with hp | hp
          · have := l2 p hp
            omega
          · subst hp
            rw [List.length_append]
            simp
            omega⟩
        rw [eo] at this
        exact this
      | none =>
        rw [e] at pt
        refine ⟨rfl, ?_⟩
        have := hN _ ⟨ah ++ [(kk, [i])], .v (keyD kk), rfl, step pt, by rw [List.length_append]; simp; omega, fun p hp => by
          rcases List.mem_append.mp hp with hp | hp
          · have := l2 p hp
            omega
          · rw [List.mem_singleton.mp hp]
            simp
            omega⟩
        unfold ahO at this
        rw [List.map_append, List.map_append] at this
        exact this
    · rintro Γ' ⟨ah, s3, rfl, P1, l1, l2⟩
      rw [List.length_map] at P1 l1 l2
      refine hN _ ⟨ah, _, _, rfl, P1.imp fun k s => ?_, by omega, fun p hp => by have := l2 p hp; omega⟩
      rw [List.take_length]
      constructor
      · rintro (⟨z1, z2, z3⟩ | ⟨rfl, z2⟩)
        · exact ⟨by omega, z2, z3⟩
        · exact ⟨by omega, hi, by rw [fi]; exact z2⟩
      · rintro ⟨z1, z2, z3⟩
        by_cases e : s = i
        · subst e
          exact .inr ⟨rfl, by rw [fi] at z3; exact z3⟩
        · exact .inl ⟨by omega, z2, z3⟩
  · rintro Γ' ⟨ah, s2, s3, rfl, P0, l1, l2⟩
    rw [List.length_map, List.length_range] at P0
    simp [sVar]
    rw [ahO_fz]
    exact h _ (P0.imp fun k s => by
      constructor
      · rintro ⟨_, z2, z3⟩
        exact ⟨z2, z3⟩
      · rintro ⟨z2, z3⟩
        exact ⟨z2, z2, z3⟩)

end
end L3
namespace L3
open PySem PySem.Spec PyProof.Rows L2
section
variable {P : Program} {w : World} {K : PySem.W.Frag} {mg : Str → Option Value} {base : Heap}
def sdD (st : List (Key × Nat)) : List (Key × D) := st.map fun p => (p.1, .int (p.2 : Nat))
def sdO (st : List (Key × Nat)) : O := .dc (st.map (·.1)) (st.map fun p => .leaf (.int (p.2 : Nat)))
theorem sdO_fz {st : List (Key × Nat)} : (sdO st).fz = .dic (sdD st) := by
  unfold sdO sdD
  rw [O.fz, fzs_map, List.map_map]
  congr 1
  rw [List.zip_map', Function.comp_def]
  rfl
theorem look_of {st : List (Key × Nat)} {k : Key} {v : Nat} (nd : (st.map (·.1)).Nodup) (h : (k, v) ∈ st) : lookD (sdD st) k = some (.int (v : Nat)) := by
  unfold lookD sdD
  induction st with
  | nil => cases h
  | cons p r ih =>
    rw [List.map_cons, List.nodup_cons] at nd
    rw [List.map_cons, List.find?_cons]
    rcases List.mem_cons.mp h with rfl | h
    · rw [decide_eq_true rfl]
      rfl
    · have ne : ¬ p.1 = k := fun e => nd.1 (by rw [e]; exact List.mem_map.mpr ⟨_, h, rfl⟩)
      rw [decide_eq_false ne]
      exact ih nd.2 h
theorem look_no {st : List (Key × Nat)} {k : Key} (h : ∀ v, (k, v) ∉ st) : lookD (sdD st) k = none := by
  unfold lookD sdD
  rw [Option.map_eq_none_iff, List.find?_eq_none]
  intro p hp
  obtain ⟨q, hq, rfl⟩ := List.mem_map.mp hp
  intro e
  have e : q.1 = k := by simpa using e
  exact h q.2 (e ▸ hq)
theorem look_ah {ah : List (Key × List Nat)} {P : Key → Nat → Prop} (h : AhP ah P) (k : Key) : ∃ l : List Nat, (lookD (ahD ah) k).getD (.lst []) = .lst (l.map fun s => .int (s : Nat)) ∧ ∀ s, s ∈ l ↔ P k s := by
  obtain ⟨nd, it⟩ := h
  by_cases hk : ∃ l, (k, l) ∈ ah
  · obtain ⟨l, hl⟩ := hk
    have e : lookD (ahD ah) k = some (.lst (l.map fun s => .int (s : Nat))) := by
      clear it
      unfold lookD ahD
      induction ah with
      | nil => cases hl
      | cons p r ih =>
        rw [List.map_cons, List.nodup_cons] at nd
        rw [List.map_cons, List.find?_cons]
        rcases List.mem_cons.mp hl with rfl | hl
        · rw [decide_eq_true rfl]
          rfl
        · have ne : ¬ p.1 = k := fun e => nd.1 (by rw [e]; exact List.mem_map.mpr ⟨_, hl, rfl⟩)
          rw [decide_eq_false ne]
          exact ih nd.2 hl
    refine ⟨l, by rw [e]; rfl, fun s => ?_⟩
    rw [← it k s]
    constructor
    · exact fun hs => ⟨l, hl, hs⟩
    · rintro ⟨l', h', hs⟩
      have : l' = l := by
        clear it e
        induction ah with
        | nil => cases hl
        | cons p r ih =>
          rw [List.map_cons, List.nodup_cons] at nd
          rcases List.mem_cons.mp h' with e1 | h'
          · rcases List.mem_cons.mp hl with e2 | hl
            · exact (Prod.mk.inj (e1.trans e2.symm)).2
            · exact absurd (List.mem_map.mpr ⟨_, hl, by rw [← e1]⟩) nd.1
          · rcases List.mem_cons.mp hl with e2 | hl
            · exact absurd (List.mem_map.mpr ⟨_, h', by rw [← e2]⟩) nd.1
            · exact ih nd.2 hl h'
      exact this ▸ hs
  · have e : lookD (ahD ah) k = none := by
      unfold lookD ahD
      rw [Option.map_eq_none_iff, List.find?_eq_none]
      intro p hp
      obtain ⟨q, hq, rfl⟩ := List.mem_map.mp hp
      intro e
      have e : q.1 = k := by simpa using e
      exact hk ⟨q.2, e ▸ hq⟩
    refine ⟨[], by rw [e]; rfl, fun s => ?_⟩
    rw [← it k s]
    constructor
    · intro h; cases h
    · rintro ⟨l', h', _⟩
      exact absurd ⟨l', h'⟩ hk
def c_fewest_steps : SE := fun Γ κ _ => ∃ fs : List (List Key), Γ = [.v (.dil (foD fs)), .v (.lst [.str "changed"])] ∧ FsOk fs ∧ fs.length ≤ 100 ∧ ∀ sd, (∀ s, s < fs.length → lookD sd (stK s) = (fstR fs (fs.length + 1) s).map fun v => .int (v : Nat)) → κ (.leaf (.dic sd)) Γ

theorem ok_fewest_steps (T : Txt K mg w) : FnG P w K mg base 2 T.fewest_steps.f T.fewest_steps.fd ["follows", "goals"] (spF K 2 c_fewest_steps) := by
  have nd := sc_fewest_steps.nd
  refine fn_imp (fn_L3 (k := 1) T.fewest_steps.F sc_fewest_steps rfl (by decide) fun cdv A outer s H vs Q E hr gd => (ssj_cons (sj_asg (ws := [2]) (ej_call (ok_turned_round T) (hr.mono (by omega)) gd rfl T.turned_round.M T.turned_round.F.kp T.turned_round.B (asj_cons (aj_v (pv 0)) asj_nil)) (gj_name (pg_name (i := 2) nd rfl (Or.inl rfl)) (by simp)))
    (ssj_cons (sj_setDc (i := 3) (own := [("goal", 4)]) rfl nd rfl rfl (sw_trueD rfl rfl rfl (by decide +kernel)) (blkOk_by (N := N_fewest_steps) (sc := defScope st_fewest_steps) (by decide +kernel)) (ij_seq (aj_v (pv 1))) (fun _ _ _ _ _ => (gj_name (pg_name (i := 4) nd rfl (Or.inl rfl)) (by simp))) (fun _ _ _ _ _ => cj_nil) (fun _ _ _ _ _ => (aj_e (ej_var (pv 4)))) (fun _ _ _ _ _ => (aj_e ej_int)))
    (ssj_cons (sj_asg (ws := [5]) (ej_keysL rfl (pv 3) rfl T.b_list) (gj_name (pg_name (i := 5) nd rfl (Or.inl rfl)) (by simp)))
    (ssj_cons (sj_while (passes_of rfl) (tj_tr (aj_v (pv 5)) (fun _ => rfl)) (ssj_cons (sj_own (i := 6) nd rfl (Or.inl rfl) (ej_lst asj_nil))
    (ssj_cons (sj_for (ws := [7]) (passes_of rfl) rfl (ij_seq (aj_v (pv 5))) (gj_name (pg_name (i := 7) nd rfl (Or.inl rfl)) (by simp)) (ssj_one (sj_for (ws := [8]) (passes_of rfl) rfl (ij_seq (aj_e (ej_fget2 (hu1 hr) (pv 2) (aj_v (pv 7))))) (gj_name (pg_name (i := 8) nd rfl (Or.inl rfl)) (by simp)) (ssj_one (sj_if (tj_knot (hu1 hr) (pv 3) (aj_v (pv 8))) (ssj_cons (sj_kput (hu1 hr) (pv 3) (aj_v (pv 8)) (ej_op op_addA k_add (aj_e (ej_kget (hu1 hr) (pv 3) (aj_v (pv 7)) (fun _ _ => rfl))) (aj_e ej_int)))
    (ssj_one (sj_app (pv 6) (aj_e (ej_var (pv 8)))))) ssj_nil)))))
    (ssj_one (sj_asg (ws := [5]) (ej_var (pv 6)) (gj_name (pg_name (i := 5) nd rfl (Or.inl rfl)) (by simp)))))))
    (ssj_one (sj_ret (ej_var (pv 3))))))))) ?_
  rintro Γ κ Ex ⟨fs, rfl, ok, hl, h⟩
  have hz := sizeLine_eq
  refine seq_cut (fun Γ' => ∃ ah, Γ' = [.v (.dil (foD fs)), .v (.lst [.str "changed"]), .v (.dic (ahD ah)), .un, .un, .un, .un, .un, .un] ∧ AhP ah (fun k s => s < fs.length ∧ k ∈ fs.getD s [])) ?_ ?_
  rotate_left
  · intro Z hZ
    simp
    refine callV (as := [.slot 0]) (ds := [.dil (foD fs)]) (fun κ h => by simp; exact h) ⟨rfl, trivial⟩ rfl fun K E hK hE => ⟨fs, rfl, by omega, ok.ln, fun ah P0 => hK _ (hZ _ ⟨ah, rfl, P0⟩)⟩
  rintro _ ⟨ah, rfl, PA⟩
  refine seq_cut (fun Γ' => ∃ s4, Γ' = [.v (.dil (foD fs)), .v (.lst [.str "changed"]), .v (.dic (ahD ah)), .o none (sdO [(chK, 0)]), s4, .un, .un, .un, .un]) ?_ ?_
  rotate_left
  · intro Z hZ
    simp [dkGo]
    exact ⟨by rw [hz]; decide, chK, rfl, hZ _ ⟨_, rfl⟩⟩
  rintro _ ⟨s4, rfl⟩
  refine seq_cut (fun Γ' => Γ' = [.v (.dil (foD fs)), .v (.lst [.str "changed"]), .v (.dic (ahD ah)), .o none (sdO [(chK, 0)]), s4, .v (.lst ([chK].map keyD)), .un, .un, .un]) ?_ ?_
  rotate_left
  · intro Z hZ
    simp
    exact ⟨none, _, ⟨rfl, _, rfl⟩, hZ _ rfl⟩
  rintro _ rfl
  simp
  refine ⟨fun k Γ => ∃ (d : Nat) (st : List (Key × Nat)) (L : List Key) (s4 s6 s7 s8 : S), Γ = [.v (.dil (foD fs)), .v (.lst [.str "changed"]), .v (.dic (ahD ah)), .o none (sdO st), s4, .v (.lst (L.map keyD)), s6, s7, s8] ∧ Bf fs d st ∧ (∀ k, k ∈ L ↔ (k, d) ∈ st) ∧ L.Nodup ∧ d ≤ st.length ∧ (L ≠ [] → d + 1 ≤ st.length) ∧ k + d = fs.length + 2, ⟨fs.length + 2, 0, [(chK, 0)], [chK], s4, .un, .un, .un, rfl, .start, fun k => by simp, by simp, by simp, by simp, rfl⟩, ?_⟩
  rintro m Γ ⟨d, st, L, s4, s6, s7, s8, rfl, b, hL, ndL, l1, l2, hm⟩
  have bl := b.len
  by_cases hL0 : L = []
  · subst hL0
    simp [sVar]
    rw [sdO_fz]
    refine h _ fun s hs => ?_
    rw [b.fin ok (fun k hk => by have := (hL k).mpr hk; cases this) (show d ≤ fs.length + 1 by omega) hs]
    cases e : fstR fs d s with
    | some v => exact look_of b.nd ((b.ds s hs v).mpr e)
    | none =>
      refine look_no fun v hv => ?_
      rw [(b.ds s hs v).mp hv] at e
      cases e
  have l2 := l2 hL0
  have tr : ∀ κ Ex, κ true [.v (.dil (foD fs)), .v (.lst [.str "changed"]), .v (.dic (ahD ah)), .o none (sdO st), s4, .v (.lst (L.map keyD)), s6, s7, s8] → cTr (aV 5) [.v (.dil (foD fs)), .v (.lst [.str "changed"]), .v (.dic (ahD ah)), .o none (sdO st), s4, .v (.lst (L.map keyD)), s6, s7, s8] κ Ex := fun κ Ex hh => by
    have e : (!(L.map keyD).isEmpty) = true := by
      cases L with
      | nil => exact absurd rfl hL0
      | cons a r => rfl
    simp [trK]
    cases L with
    | nil => exact absurd rfl hL0
    | cons a r => exact hh
  refine tr _ _ ?_
  rw [if_pos rfl]
  refine seq_cut (fun Γ' => Γ' = [.v (.dil (foD fs)), .v (.lst [.str "changed"]), .v (.dic (ahD ah)), .o none (sdO st), s4, .v (.lst (L.map keyD)), .o none (.ls []), s7, s8]) ?_ ?_
  rotate_left
  · intro Z hZ
    simp
    exact hZ _ rfl
  rintro _ rfl
  refine seq_cut (fun Γ' => ∃ (nw : List Key) (s7 s8 : S), Γ' = [.v (.dil (foD fs)), .v (.lst [.str "changed"]), .v (.dic (ahD ah)), .o none (sdO (st ++ nw.map fun k => (k, d + 1))), s4, .v (.lst (L.map keyD)), .o none (.ls (nw.map keyD)), s7, s8] ∧ Bf fs (d + 1) (st ++ nw.map fun k => (k, d + 1)) ∧ (∀ k, k ∈ nw ↔ (k, d + 1) ∈ st ++ nw.map fun k => (k, d + 1)) ∧ nw.Nodup) ?_ ?_
  rotate_left
  · intro Z hZ
    simp
    have keyq : ∀ q ∈ L, ∃ n : Nat, st[n]? = some (q, d) := fun q hq => List.mem_iff_getElem?.mp ((hL q).mp hq)
    refine forGo_inv (fun i Γ => ∃ (nw : List Key) (s7 s8 : S), Γ = [.v (.dil (foD fs)), .v (.lst [.str "changed"]), .v (.dic (ahD ah)), .o none (sdO (st ++ nw.map fun k => (k, d + 1))), s4, .v (.lst (L.map keyD)), .o none (.ls (nw.map keyD)), s7, s8] ∧ ((st ++ nw.map fun k => (k, d + 1)).map (·.1)).Nodup ∧ (∀ k ∈ nw, ∃ s, s < fs.length ∧ k = stK s ∧ ∃ q ∈ L, q ∈ fs.getD s []) ∧ ∀ q ∈ L.take i, ∀ s, s < fs.length → q ∈ fs.getD s [] → stK s ∈ (st ++ nw.map fun k => (k, d + 1)).map (·.1)) ?_ ⟨[], s7, s8, by rw [List.map_nil, List.append_nil, List.map_nil], by simpa using b.nd, (fun _ h => nomatch h), fun _ h => by simp at h⟩ ?_
    · rintro i dd hd Γ ⟨nw, s7, s8, rfl, n1, n2, n3⟩ N hN
      rw [List.getElem?_map] at hd
      obtain ⟨q, hq, rfl⟩ := Option.map_eq_some_iff.mp hd
      obtain ⟨hi, eq⟩ := List.getElem?_eq_some_iff.mp hq
      have qL : q ∈ L := List.mem_of_getElem? hq
      have nxt := take_snoc hi
      rw [eq] at nxt
      obtain ⟨l, el, hl2⟩ := look_ah PA q
      obtain ⟨nq, hnq⟩ := keyq q qL
      simp
      refine ⟨ahD ah, .inl rfl, q, rfl, ?_⟩
      rw [el]
      simp
      refine forGo_inv (fun j Γ => ∃ (nw : List Key) (s8 : S), Γ = [.v (.dil (foD fs)), .v (.lst [.str "changed"]), .v (.dic (ahD ah)), .o none (sdO (st ++ nw.map fun k => (k, d + 1))), s4, .v (.lst (L.map keyD)), .o none (.ls (nw.map keyD)), .v (keyD q), s8] ∧ ((st ++ nw.map fun k => (k, d + 1)).map (·.1)).Nodup ∧ (∀ k ∈ nw, ∃ s, s < fs.length ∧ k = stK s ∧ ∃ q ∈ L, q ∈ fs.getD s []) ∧ (∀ q ∈ L.take i, ∀ s, s < fs.length → q ∈ fs.getD s [] → stK s ∈ (st ++ nw.map fun k => (k, d + 1)).map (·.1)) ∧ ∀ s ∈ l.take j, stK s ∈ (st ++ nw.map fun k => (k, d + 1)).map (·.1)) ?_ ⟨nw, s8, rfl, n1, n2, n3, fun _ h => by simp at h⟩ ?_
      · clear n1 n2 n3 hN
        rintro j dd hd Γ ⟨nw, s8, rfl, n1, n2, n3, n4⟩ N hN
        rw [List.getElem?_map] at hd
        obtain ⟨s, hs, rfl⟩ := Option.map_eq_some_iff.mp hd
        obtain ⟨hj, ej⟩ := List.getElem?_eq_some_iff.mp hs
        have nxt := take_snoc hj
        rw [ej] at nxt
        have sl := (hl2 s).mp (List.mem_of_getElem? hs)
        have kl := keys_len (fs := fs) n1 fun p hp => by
          rcases List.mem_append.mp hp with hp | hp
          · exact b.ky p hp
          · obtain ⟨k, hk, rfl⟩ := List.mem_map.mp hp
            obtain ⟨s', hs', e, _⟩ := n2 k hk
            exact .inr ⟨s', hs', e⟩
        have nl : nw.length ≤ fs.length + 1 := by rw [List.length_append, List.length_map] at kl; omega
        have hst : (st ++ nw.map fun k => (k, d + 1))[nq]? = some (q, d) := by
          rw [List.getElem?_append_left (List.getElem?_eq_some_iff.mp hnq).1]
          exact hnq
        have snoc : (st ++ (nw ++ [stK s]).map fun k => (k, d + 1)) = (st ++ nw.map fun k => (k, d + 1)) ++ [(stK s, d + 1)] := by
          rw [List.map_append, List.append_assoc]
          rfl
        have fin1 : stK s ∈ (st ++ nw.map fun k => (k, d + 1)).map (·.1) → N [.v (.dil (foD fs)), .v (.lst [.str "changed"]), .v (.dic (ahD ah)), .o none (sdO (st ++ nw.map fun k => (k, d + 1))), s4, .v (.lst (L.map keyD)), .o none (.ls (nw.map keyD)), .v (keyD q), .v (.int (s : Nat))] := fun hin => hN _ ⟨nw, _, rfl, n1, n2, n3, fun s' hs' => by
          rw [nxt] at hs'
          rcases List.mem_append.mp hs' with h' | h'
          · exact n4 s' h'
          · have : s' = s := by simpa using h'
            exact this ▸ hin⟩
        have fin2 : stK s ∉ (st ++ nw.map fun k => (k, d + 1)).map (·.1) → N [.v (.dil (foD fs)), .v (.lst [.str "changed"]), .v (.dic (ahD ah)), .o none (sdO ((st ++ nw.map fun k => (k, d + 1)) ++ [(stK s, d + 1)])), s4, .v (.lst (L.map keyD)), .o none (.ls ((nw ++ [stK s]).map keyD)), .v (keyD q), .v (.int (s : Nat))] := fun hin => by
          have sub : ∀ k, k ∈ (st ++ nw.map fun k => (k, d + 1)).map (·.1) → k ∈ (st ++ (nw ++ [stK s]).map fun k => (k, d + 1)).map (·.1) := fun k hk => by
            rw [snoc, List.map_append]
            exact List.mem_append_left _ hk
          have := hN _ ⟨nw ++ [stK s], .v (.int (s : Nat)), rfl, by
            rw [snoc, List.map_append]
            exact List.nodup_append.mpr ⟨n1, by simp, fun a ha b hb hab => hin (by
              have : b = stK s := by simpa using hb
              exact this ▸ hab ▸ ha)⟩, fun k hk => by
            rcases List.mem_append.mp hk with hk | hk
            · exact n2 k hk
            · rw [List.mem_singleton.mp hk]
              exact ⟨s, sl.1, rfl, q, qL, sl.2⟩, fun q' hq' s' hs' hqs => sub _ (n3 q' hq' s' hs' hqs), fun s' hs' => by
            rw [nxt] at hs'
            rcases List.mem_append.mp hs' with h' | h'
            · exact sub _ (n4 s' h')
            · have : s' = s := by simpa using h'
              rw [this, snoc, List.map_append]
              simp⟩
          rw [snoc] at this
          exact this
        clear hN
        generalize hT : (st ++ nw.map fun k => (k, d + 1)) = T at hst fin1 fin2 kl ⊢
        simp
        refine ⟨stK s, rfl, none, _, ⟨rfl, _, rfl⟩, ?_⟩
        cases e : ixK (T.map (·.1)) (stK s) with
        | some m =>
          rw [if_neg (by simp)]
          exact fin1 (List.mem_of_getElem? (ixK_some e))
        | none =>
          rw [if_pos rfl]
          refine ⟨⟨_, _, rfl⟩, q, rfl, nq, none, _, _, ⟨rfl, rfl⟩, by rw [List.getElem?_map, hst]; rfl, .int (d : Nat), by rw [List.getElem?_map, hst]; rfl, ?_⟩
          simp
          refine ⟨⟨_, _, rfl⟩, stK s, rfl, none, _, _, ⟨rfl, rfl⟩, by rw [List.length_map, hz]; omega, ?_⟩
          rw [e]
          refine ⟨none, _, ⟨rfl, rfl⟩, by rw [List.length_map, hz]; omega, ?_⟩
          have := fin2 (ixK_none e)
          unfold sdO at this
          rw [List.map_append, List.map_append, List.map_append (l₁ := nw)] at this
          exact this
      · rintro Γ' ⟨nw, s8, rfl, n1, n2, n3, n4⟩
        rw [List.length_map, List.take_length] at n4
        refine hN _ ⟨nw, _, s8, rfl, n1, n2, fun q' hq' s hs hqs => ?_⟩
        rw [nxt] at hq'
        rcases List.mem_append.mp hq' with h' | h'
        · exact n3 q' h' s hs hqs
        · have : q' = q := by simpa using h'
          subst this
          exact n4 s ((hl2 s).mpr ⟨hs, hqs⟩)
    · rintro Γ' ⟨nw, s7, s8, rfl, n1, n2, n3⟩
      rw [List.length_map, List.take_length] at n3
      obtain ⟨b', hL'⟩ := b.step ok hL n1 n2 n3
      refine hZ _ ⟨nw, s7, s8, rfl, b', hL', ?_⟩
      have := n1
      rw [List.map_append] at this
      have := (List.nodup_append.mp this).2.1
      rw [List.map_map] at this
      simpa [Function.comp_def] using this
  rintro _ ⟨nw, s7, s8, rfl, b', hL', ndw⟩
  have bl' := b'.len
  simp [sVar]
  refine ⟨m - 1, by omega, d + 1, _, nw, ⟨rfl, rfl⟩, b', hL', ndw, ?_, fun hne => ?_, by omega⟩
  · rw [List.length_append]; omega
  · have := List.length_pos_iff.mpr hne
    rw [List.length_append, List.length_map]
    omega

end
end L3
namespace L3
open PySem PySem.Spec PyProof.Rows L2
section
variable {P : Program} {w : World} {K : PySem.W.Frag} {mg : Str → Option Value} {base : Heap}
def chB (b : Bool) (i : Nat) : Bool := b && decide (i % 3 ≠ 1)
def c_is_change : SE := fun Γ κ _ => ∃ (b : Bool) (n : Int) (i : Nat), Γ = [.v (entD b n), .v (.int (i : Nat))] ∧ κ (.leaf (.bl (chB b i))) Γ
theorem m31 {i : Nat} : ((i : Int) % 3 = 1) ↔ i % 3 = 1 := by omega

theorem ok_is_change (T : Txt K mg w) : FnG P w K mg base 1 T.is_change.f T.is_change.fd ["entry", "number"] (spF K 2 c_is_change) := by
  have nd := sc_is_change.nd
  refine fn_imp (fn_L3 (k := 0) T.is_change.F sc_is_change rfl (by decide) fun cdv A outer s H vs Q E hr gd => (ssj_one (sj_ret (ej_and (ej_cmp (op_eqP (hu64 hr)) k_eq (aj_e (ej_ix ix_seq k_ix (aj_v (pv 0)) (aj_e ej_int) (fun _ _ => rfl))) (aj_e ej_str) (nomark _)) (ej_one (ej_cmp (op_neP (hu64 hr)) k_ne (aj_e (ej_op op_mod k_mod (aj_v (pv 1)) (aj_e ej_int))) (aj_e ej_int) (nomark _))))))) ?_
  rintro Γ κ Ex ⟨b, n, i, rfl, h⟩
  unfold chB at h
  have e1 : ¬ Str.ofString "old" = Str.ofString "new" := by decide
  cases b <;> simp [entD, okEq_str, okEq_int, eqD_int, eqD_strs, e1] at h ⊢
  · exact h
  · have e2 : decide ((i : Int) % 3 = 1) = decide (i % 3 = 1) := decide_eq_decide.mpr m31
    rw [e2]
    exact h

end
end L3
namespace L3
open PySem PySem.Spec PyProof.Rows L2
section
variable {P : Program} {w : World} {K : PySem.W.Frag} {mg : Str → Option Value} {base : Heap}

theorem ok_takes_never (T : Txt K mg w) : FnG P w K mg base 1 T.takes_never.f T.takes_never.fd ["begin", "end", "value"] (spF K 3 c_takes_never) := by
  have nd := sc_takes_never.nd
  refine fn_imp (fn_L3 (k := 0) T.takes_never.F sc_takes_never rfl (by decide) fun cdv A outer s H vs Q E hr gd => (ssj_one (sj_ret ej_bl))) ?_
  intro Γ κ Ex h
  unfold c_takes_never cs_RULES at h
  split at h
  case h_2 => exact h.elim
  obtain ⟨h1, h2, h3, h⟩ := h
  simp [takeB] at h ⊢
  exact h

end
end L3
namespace L3
open PySem PySem.Spec PyProof.Rows L2
section
variable {P : Program} {w : World} {K : PySem.W.Frag} {mg : Str → Option Value} {base : Heap}

theorem ok_takes_always (T : Txt K mg w) : FnG P w K mg base 1 T.takes_always.f T.takes_always.fd ["begin", "end", "value"] (spF K 3 c_takes_always) := by
  have nd := sc_takes_always.nd
  refine fn_imp (fn_L3 (k := 0) T.takes_always.F sc_takes_always rfl (by decide) fun cdv A outer s H vs Q E hr gd => (ssj_one (sj_ret ej_bl))) ?_
  intro Γ κ Ex h
  unfold c_takes_always cs_RULES at h
  split at h
  case h_2 => exact h.elim
  obtain ⟨h1, h2, h3, h⟩ := h
  simp [takeB] at h ⊢
  exact h

end
end L3
namespace L3
open PySem PySem.Spec PyProof.Rows L2
section
variable {P : Program} {w : World} {K : PySem.W.Frag} {mg : Str → Option Value} {base : Heap}

theorem ok_takes_begins (T : Txt K mg w) : FnG P w K mg base 1 T.takes_begins.f T.takes_begins.fd ["begin", "end", "value"] (spF K 3 c_takes_begins) := by
  have nd := sc_takes_begins.nd
  refine fn_imp (fn_L3 (k := 0) T.takes_begins.F sc_takes_begins rfl (by decide) fun cdv A outer s H vs Q E hr gd => (ssj_one (sj_ret (ej_cmp (op_eqP (hu64 hr)) k_eq (aj_v (pv 0)) (aj_e ej_str) (nomark _))))) ?_
  intro Γ κ Ex h
  unfold c_takes_begins cs_RULES at h
  split at h
  case h_2 => exact h.elim
  rename_i b e v
  obtain ⟨h1, h2, h3, h⟩ := h
  rw [tk_begins] at h
  simp [eqD_strs, okEq, D.pl, D.dep]
  exact h

end
end L3
namespace L3
open PySem PySem.Spec PyProof.Rows L2
section
variable {P : Program} {w : World} {K : PySem.W.Frag} {mg : Str → Option Value} {base : Heap}

theorem ok_takes_ends (T : Txt K mg w) : FnG P w K mg base 1 T.takes_ends.f T.takes_ends.fd ["begin", "end", "value"] (spF K 3 c_takes_ends) := by
  have nd := sc_takes_ends.nd
  refine fn_imp (fn_L3 (k := 0) T.takes_ends.F sc_takes_ends rfl (by decide) fun cdv A outer s H vs Q E hr gd => (ssj_one (sj_ret (ej_cmp (op_eqP (hu64 hr)) k_eq (aj_v (pv 1)) (aj_e ej_str) (nomark _))))) ?_
  intro Γ κ Ex h
  unfold c_takes_ends cs_RULES at h
  split at h
  case h_2 => exact h.elim
  rename_i b e v
  obtain ⟨h1, h2, h3, h⟩ := h
  rw [tk_ends] at h
  simp [eqD_strs, okEq, D.pl, D.dep]
  exact h

end
end L3
namespace L3
open PySem PySem.Spec PyProof.Rows L2
section
variable {P : Program} {w : World} {K : PySem.W.Frag} {mg : Str → Option Value} {base : Heap}

theorem ok_takes_cover (T : Txt K mg w) : FnG P w K mg base 1 T.takes_cover.f T.takes_cover.fd ["begin", "end", "value"] (spF K 3 c_takes_cover) := by
  have nd := sc_takes_cover.nd
  refine fn_imp (fn_L3 (k := 0) T.takes_cover.F sc_takes_cover rfl (by decide) fun cdv A outer s H vs Q E hr gd => (ssj_one (sj_ret (ej_and (ej_cmp (op_neP (hu64 hr)) k_ne (aj_v (pv 0)) (aj_e ej_str) (nomark _)) (ej_and (ej_cmp (op_neP (hu64 hr)) k_ne (aj_v (pv 1)) (aj_e ej_str) (nomark _)) (ej_one (ej_cmp (op_neP (hu64 hr)) k_ne (aj_e (ej_tup (asj_cons (aj_e (ej_var (pv 0))) (asj_cons (aj_e (ej_var (pv 1))) asj_nil)))) (aj_e (ej_tup (asj_cons (aj_e ej_str) (asj_cons (aj_e ej_str) asj_nil)))) (nomark _)))))))) ?_
  intro Γ κ Ex h
  unfold c_takes_cover cs_RULES at h
  split at h
  case h_2 => exact h.elim
  rename_i b e v
  obtain ⟨h1, h2, h3, h⟩ := h
  rw [tk_cover] at h
  simp [eqD_strs, eqD_t2, okEq, D.pl, pls, D.dep, deps, sizeLine_eq] at h ⊢
  by_cases a1 : b = Str.ofString ">"
  · exact .inl ⟨a1, by simpa [a1] using h⟩
  · refine .inr ⟨a1, ?_⟩
    by_cases a2 : e = Str.ofString "<"
    · exact .inl ⟨a2, by simpa [a2] using h⟩
    · exact .inr ⟨a2, by simpa [a1, a2] using h⟩

end
end L3
namespace L3
open PySem PySem.Spec PyProof.Rows L2
section
variable {P : Program} {w : World} {K : PySem.W.Frag} {mg : Str → Option Value} {base : Heap}

theorem ok_takes_inner (T : Txt K mg w) : FnG P w K mg base 1 T.takes_inner.f T.takes_inner.fd ["begin", "end", "value"] (spF K 3 c_takes_inner) := by
  have nd := sc_takes_inner.nd
  refine fn_imp (fn_L3 (k := 0) T.takes_inner.F sc_takes_inner rfl (by decide) fun cdv A outer s H vs Q E hr gd => (ssj_one (sj_ret (ej_and (ej_cmp (op_neP (hu64 hr)) k_ne (aj_v (pv 0)) (aj_e ej_str) (nomark _)) (ej_and (ej_cmp (op_neP (hu64 hr)) k_ne (aj_v (pv 1)) (aj_e ej_str) (nomark _)) (ej_one (ej_cmp (op_neP (hu64 hr)) k_ne (aj_e (ej_tup (asj_cons (aj_e (ej_var (pv 0))) (asj_cons (aj_e (ej_var (pv 1))) asj_nil)))) (aj_e (ej_tup (asj_cons (aj_e ej_str) (asj_cons (aj_e ej_str) asj_nil)))) (nomark _)))))))) ?_
  intro Γ κ Ex h
  unfold c_takes_inner cs_RULES at h
  split at h
  case h_2 => exact h.elim
  rename_i b e v
  obtain ⟨h1, h2, h3, h⟩ := h
  rw [tk_inner] at h
  simp [eqD_strs, eqD_t2, okEq, D.pl, pls, D.dep, deps, sizeLine_eq] at h ⊢
  by_cases a1 : b = Str.ofString "<"
  · exact .inl ⟨a1, by simpa [a1] using h⟩
  · refine .inr ⟨a1, ?_⟩
    by_cases a2 : e = Str.ofString ">"
    · exact .inl ⟨a2, by simpa [a2] using h⟩
    · exact .inr ⟨a2, by simpa [a1, a2] using h⟩

end
end L3
namespace L3
open PySem PySem.Spec PyProof.Rows L2
section
variable {P : Program} {w : World} {K : PySem.W.Frag} {mg : Str → Option Value} {base : Heap}

theorem ok_takes_least (T : Txt K mg w) : FnG P w K mg base 1 T.takes_least.f T.takes_least.fd ["begin", "end", "value"] (spF K 3 c_takes_least) := by
  have nd := sc_takes_least.nd
  refine fn_imp (fn_L3 (k := 0) T.takes_least.F sc_takes_least rfl (by decide) fun cdv A outer s H vs Q E hr gd => (ssj_one (sj_ret (ej_cmp (op_eqP (hu64 hr)) k_eq (aj_v (pv 2)) (aj_e ej_str) (nomark _))))) ?_
  intro Γ κ Ex h
  unfold c_takes_least cs_RULES at h
  split at h
  case h_2 => exact h.elim
  rename_i b e v
  obtain ⟨h1, h2, h3, h⟩ := h
  rw [tk_least] at h
  simp [eqD_strs, okEq, D.pl, D.dep]
  exact h

end
end L3
namespace L3
open PySem PySem.Spec PyProof.Rows L2
section
variable {P : Program} {w : World} {K : PySem.W.Frag} {mg : Str → Option Value} {base : Heap}

theorem ok_takes_ranked (T : Txt K mg w) : FnG P w K mg base 1 T.takes_ranked.f T.takes_ranked.fd ["begin", "end", "value"] (spF K 3 c_takes_ranked) := by
  have nd := sc_takes_ranked.nd
  refine fn_imp (fn_L3 (k := 0) T.takes_ranked.F sc_takes_ranked rfl (by decide) fun cdv A outer s H vs Q E hr gd => (ssj_cons (sj_if (WJ.tj (wj_and (tj_cmp (op_eqP (hu64 hr)) k_eq (aj_v (pv 0)) (aj_e ej_str) (nomark _)) (wj_and1 (tj_cmp (op_eqP (hu64 hr)) k_eq (aj_v (pv 1)) (aj_e ej_str) (nomark _))))) (ssj_one (sj_ret (ej_cmp (op_eqP (hu64 hr)) k_eq (aj_v (pv 2)) (aj_e ej_str) (nomark _)))) ssj_nil)
    (ssj_one (sj_ret (ej_or (ej_cmp (op_eqP (hu64 hr)) k_eq (aj_v (pv 0)) (aj_e ej_str) (nomark _)) (ej_one (ej_and (ej_cmp (op_eqP (hu64 hr)) k_eq (aj_v (pv 0)) (aj_e ej_str) (nomark _)) (ej_one (ej_cmp (op_eqP (hu64 hr)) k_eq (aj_v (pv 1)) (aj_e ej_str) (nomark _)))))))))) ?_
  intro Γ κ Ex h
  unfold c_takes_ranked cs_RULES at h
  split at h
  case h_2 => exact h.elim
  rename_i b e v
  obtain ⟨h1, h2, h3, h⟩ := h
  rw [tk_ranked] at h
  have n1 : ¬ (Str.ofString "=" = Str.ofString "<") := by decide
  have n2 : ¬ (Str.ofString "<" = Str.ofString "=") := by decide
  simp [eqD_strs, okEq, D.pl, D.dep] at h ⊢
  by_cases a1 : b = Str.ofString "="
  · refine .inr ⟨a1, ?_⟩
    have a2 : ¬ b = Str.ofString "<" := by rw [a1]; exact n1
    by_cases a3 : e = Str.ofString "="
    · exact .inr ⟨a3, by simpa [a1, a3] using h⟩
    · exact .inl ⟨a3, .inl ⟨a2, .inr ⟨a1, by simpa [a1, a3, n1] using h⟩⟩⟩
  · refine .inl ⟨a1, ?_⟩
    by_cases a2 : b = Str.ofString "<"
    · exact .inr ⟨a2, by simpa [a2, n2] using h⟩
    · exact .inl ⟨a2, .inl ⟨a1, by simpa [a1, a2] using h⟩⟩

end
end L3
namespace L3
open PySem PySem.Spec PyProof.Rows L2
section
variable {P : Program} {w : World} {K : PySem.W.Frag} {mg : Str → Option Value} {base : Heap}
theorem held_RULES (T : Txt K mg w) : Held P w K mg base 1 3 (rulesL.map (·.2)) cs_RULES := by
  intro z hz
  simp only [List.map_cons, List.map_nil, List.mem_cons, List.not_mem_nil, or_false] at hz
  rcases hz with rfl | rfl | rfl | rfl | rfl | rfl | rfl | rfl
  · exact ⟨_, _, _, T.takes_never.L, ok_takes_never T, T.takes_never.F.kp, T.takes_never.B⟩
  · exact ⟨_, _, _, T.takes_always.L, ok_takes_always T, T.takes_always.F.kp, T.takes_always.B⟩
  · exact ⟨_, _, _, T.takes_begins.L, ok_takes_begins T, T.takes_begins.F.kp, T.takes_begins.B⟩
  · exact ⟨_, _, _, T.takes_ends.L, ok_takes_ends T, T.takes_ends.F.kp, T.takes_ends.B⟩
  · exact ⟨_, _, _, T.takes_cover.L, ok_takes_cover T, T.takes_cover.F.kp, T.takes_cover.B⟩
  · exact ⟨_, _, _, T.takes_inner.L, ok_takes_inner T, T.takes_inner.F.kp, T.takes_inner.B⟩
  · exact ⟨_, _, _, T.takes_least.L, ok_takes_least T, T.takes_least.F.kp, T.takes_least.B⟩
  · exact ⟨_, _, _, T.takes_ranked.L, ok_takes_ranked T, T.takes_ranked.F.kp, T.takes_ranked.B⟩

theorem ok_one_state (T : Txt K mg w) : FnG P w K mg base 2 T.one_state.f T.one_state.fd ["rule"] (spF K 1 c_one_state) := by
  have nd := sc_one_state.nd
  refine fn_imp (fn_L3 (k := 1) T.one_state.F sc_one_state rfl (by decide) fun cdv A outer s H vs Q E hr gd => (ssj_cons (sj_setComp3 (i := 1) (own := [("begin", 2), ("end", 3), ("value", 4)]) (vs1 := [3, 4]) (vs2 := [4]) (e3 := ⟨_, _, _, _, _, _, _, _, _, _, _, _⟩) rfl nd rfl rfl (sw_true rfl rfl rfl (by decide +kernel)) (ij_seq (aj_e (ej_globT rfl T.t_SIGNS.at))) ⟨(blkOk_by (N := N_one_state) (sc := defScope st_one_state) (by decide +kernel)), by decide, by decide, (fun _ _ _ _ _ => (gj_name (pg_name (i := 2) nd rfl (Or.inl rfl)) (by simp))), (fun _ _ _ _ _ => cj_nil), (fun _ _ _ _ _ => (ij_seq (aj_e (ej_globT rfl T.t_SIGNS.at)))), (fun _ _ _ _ _ => (gj_name (pg_name (i := 3) nd rfl (Or.inl rfl)) (by simp))), (fun _ _ _ _ _ => cj_nil), (fun _ _ _ _ _ => (ij_seq (aj_e (ej_globT rfl T.t_SIGNS.at)))), (fun _ _ _ _ _ => (gj_name (pg_name (i := 4) nd rfl (Or.inl rfl)) (by simp))), (fun _ _ _ _ _ => cj_nil), (fun _ _ _ _ _ => (ej_callVar (held_RULES T) (hr.mono (by omega)) gd (pv 0) (asj_cons (aj_v (pv 2)) (asj_cons (aj_v (pv 3)) (asj_cons (aj_v (pv 4)) asj_nil))))), fun _ => rfl, fun _ _ => rfl, fun _ _ => rfl⟩ (.inl rfl))
    (ssj_one (sj_ret (ej_tup (asj_cons (aj_e (ej_callTy call_tuple_of k_tuple rfl T.b_tuple rfl (asj_cons (aj_e (ej_comp (own := [("new", 5)]) rfl nd (blkOk_by (N := N_one_state) (sc := defScope st_one_state) (by decide +kernel)) (ij_seq (aj_v (pv 1))) (fun _ _ _ _ _ => (gj_name (pg_name (i := 5) nd rfl (Or.inl rfl)) (by simp))) (fun _ _ _ _ _ => cj_nil) (fun _ _ _ _ _ => (ej_tup (asj_cons (aj_e (ej_if (tj_tr (aj_v (pv 5)) (fun _ => rfl)) ej_str ej_str)) (asj_cons (aj_e ej_int) asj_nil)))))) asj_nil))) asj_nil)))))) ?_
  intro Γ κ Ex h
  unfold c_one_state at h
  split at h
  case h_2 => exact h.elim
  rename_i x
  obtain ⟨hx, h⟩ := h
  simp only [bodyF, zSeq]
  obtain ⟨bs, hbs⟩ : ∃ bs : List Bool, bs = sgs.flatMap fun b => sgs.flatMap fun e => sgs.map fun v => takeB x b e v := ⟨_, rfl⟩
  refine asg3 (fun a b c => match a, b, c with | .str a, .str b, .str c => .bl (takeB x a b c) | _, _, _ => .non) [.v (.fn x), .un, .un, .un, .un, .un] rfl (by simp [sizeLine_eq]) (fun a ha b hb c hc N hN => ?_) (fun _ _ _ => rfl) (fun _ _ => rfl) (fun _ => rfl) ?_
  · obtain ⟨sa, ma, rfl⟩ := List.mem_map.mp ha
    obtain ⟨sb, mb, rfl⟩ := List.mem_map.mp hb
    obtain ⟨sc, mc, rfl⟩ := List.mem_map.mp hc
    exact ⟨x, hx, rfl, callV (as := [.slot 2, .slot 3, .slot 4]) (ds := [.str sa, .str sb, .str sc]) (fun κ h => by simp; exact h) ⟨rfl, rfl, rfl, trivial⟩ rfl fun K E hK hE => ⟨ma, mb, mc, hK _ hN⟩⟩
  rw [show (List.flatMap (fun a => List.flatMap (fun b => List.map (fun c => (match a, b, c with | .str a, .str b, .str c => D.bl (takeB x a b c) | _, _, _ => .non)) (List.map D.str [Str.ofString "<", Str.ofString "=", Str.ofString ">"])) (List.map D.str [Str.ofString "<", Str.ofString "=", Str.ofString ">"])) (List.map D.str [Str.ofString "<", Str.ofString "=", Str.ofString ">"])) = bs.map D.bl from by rw [hbs]; rfl]
  have e1 : oneS x = .tup [.tup (bs.map fun b => entD b 0)] := by rw [hbs]; rfl
  rw [e1] at h
  have hl : bs.length = 27 := by rw [hbs]; rfl
  clear hbs e1
  simp
  refine ⟨by simp [hl, sizeLine_eq], ?_⟩
  refine compGo_map (fun d => match d with | .bl b => some (entD b 0) | _ => none) (fun d hd Y N hm => ?_) ?_
  · obtain ⟨b, _, rfl⟩ := List.mem_map.mp hd
    cases b <;> simp [entD, sizeLine_eq] at hm ⊢ <;> exact hm
  have e2 : List.filterMap (fun d => match d with | .bl b => some (entD b 0) | _ => none) (bs.map D.bl) = bs.map fun b => entD b 0 := by
    rw [List.filterMap_map]
    exact congrFun (List.filterMap_eq_map' (f := fun b : Bool => entD b 0)) bs
  rw [e2]
  exact ⟨by simp [sizeLine_eq], h⟩

end
end L3
namespace L3
open PySem PySem.Spec PyProof.Rows L2
section
variable {P : Program} {w : World} {K : PySem.W.Frag} {mg : Str → Option Value} {base : Heap}

theorem ok_state_by_value (T : Txt K mg w) : FnG P w K mg base 1 T.state_by_value.f T.state_by_value.fd ["equal", "other"] (spF K 2 c_state_by_value) := by
  have nd := sc_state_by_value.nd
  refine fn_imp (fn_L3 (k := 0) T.state_by_value.F sc_state_by_value rfl (by decide) fun cdv A outer s H vs Q E hr gd => (ssj_one (sj_ret (ej_op op_mulA k_mul (aj_e (ej_tup (asj_cons (aj_e (ej_var (pv 1))) (asj_cons (aj_e (ej_var (pv 0))) (asj_cons (aj_e (ej_var (pv 1))) asj_nil))))) (aj_e ej_int))))) ?_
  intro Γ κ Ex h
  unfold c_state_by_value at h
  split at h
  case h_2 => exact h.elim
  rename_i a b
  simp [sizeLine_eq]
  exact h

end
end L3
namespace L3
open PySem PySem.Spec PyProof.Rows L2
section
variable {P : Program} {w : World} {K : PySem.W.Frag} {mg : Str → Option Value} {base : Heap}

theorem ok_vote_table (T : Txt K mg w) : FnG P w K mg base 2 T.vote_table.f T.vote_table.fd [] (spF K 0 c_vote_table) := by
  have nd := sc_vote_table.nd
  refine fn_imp (fn_L3 (k := 1) T.vote_table.F sc_vote_table rfl (by decide) fun cdv A outer s H vs Q E hr gd => (ssj_one (sj_ret (ej_tup (asj_cons (aj_e (ej_call (ok_state_by_value T) (hr.mono (by omega)) gd rfl T.state_by_value.M T.state_by_value.F.kp T.state_by_value.B (asj_cons (aj_e (ej_tup (asj_cons (aj_e ej_str) (asj_cons (aj_e ej_int) asj_nil)))) (asj_cons (aj_e (ej_tup (asj_cons (aj_e ej_str) (asj_cons (aj_e ej_int) asj_nil)))) asj_nil)))) (asj_cons (aj_e (ej_call (ok_state_by_value T) (hr.mono (by omega)) gd rfl T.state_by_value.M T.state_by_value.F.kp T.state_by_value.B (asj_cons (aj_e (ej_tup (asj_cons (aj_e ej_str) (asj_cons (aj_e ej_int) asj_nil)))) (asj_cons (aj_e (ej_tup (asj_cons (aj_e ej_str) (asj_cons (aj_e ej_int) asj_nil)))) asj_nil)))) asj_nil)))))) ?_
  intro Γ κ Ex h
  unfold c_vote_table at h
  split at h
  case h_2 => exact h.elim
  have hz : 2 ≤ sizeLine := by rw [sizeLine_eq]; decide
  have e0 : ∀ (κ : List Arg → List S → Prop) (Ex : Xk), κ [.val (entD false 0), .val (entD false 1)] [] → (aCons (aE (sTup (aCons (aE (sC (D.str (Str.ofString "old")))) (aCons (aE (sC (D.int 0))) aNil)))) (aCons (aE (sTup (aCons (aE (sC (D.str (Str.ofString "old")))) (aCons (aE (sC (D.int 1))) aNil)))) aNil)) [] κ Ex := fun κ _ h => ⟨hz, hz, h⟩
  have e1 : ∀ (κ : List Arg → List S → Prop) (Ex : Xk), κ [.val (entD false 0), .val (entD true 0)] [] → (aCons (aE (sTup (aCons (aE (sC (D.str (Str.ofString "old")))) (aCons (aE (sC (D.int 0))) aNil)))) (aCons (aE (sTup (aCons (aE (sC (D.str (Str.ofString "new")))) (aCons (aE (sC (D.int 0))) aNil)))) aNil)) [] κ Ex := fun κ _ h => ⟨hz, hz, h⟩
  unfold bodyF
  simp only [zRet, sTup]
  rw [aCons, aE]
  generalize (aCons (aE (sTup (aCons (aE (sC (D.str (Str.ofString "old")))) (aCons (aE (sC (D.int 0))) aNil)))) (aCons (aE (sTup (aCons (aE (sC (D.str (Str.ofString "old")))) (aCons (aE (sC (D.int 1))) aNil)))) aNil)) = g0 at e0 ⊢
  generalize (aCons (aE (sTup (aCons (aE (sC (D.str (Str.ofString "old")))) (aCons (aE (sC (D.int 0))) aNil)))) (aCons (aE (sTup (aCons (aE (sC (D.str (Str.ofString "new")))) (aCons (aE (sC (D.int 0))) aNil)))) aNil)) = g1 at e1 ⊢
  generalize hΓ : ([] ++ List.replicate (N_vote_table.length - ([] : List S).length) S.un : List S) = Γ0
  have hΓ : Γ0 = [] := by rw [← hΓ]; rfl
  subst hΓ
  refine callV (as := [.val (entD false 0), .val (entD false 1)]) (ds := [(entD false 0), (entD false 1)]) (fun κ h => e0 κ _ h) ⟨rfl, rfl, trivial⟩ rfl fun K E hK hE => hK _ ?_
  rw [aCons, aE]
  refine callV (as := [.val (entD false 0), .val (entD true 0)]) (ds := [(entD false 0), (entD true 0)]) (fun κ h => e1 κ _ h) ⟨rfl, rfl, trivial⟩ rfl fun K E hK hE => hK _ ?_
  rw [aNil]
  exact ⟨by rw [sizeLine_eq]; decide, h⟩

end
end L3
namespace L3
open PySem PySem.Spec PyProof.Rows L2
section
variable {P : Program} {w : World} {K : PySem.W.Frag} {mg : Str → Option Value} {base : Heap}

theorem ok_most_table (T : Txt K mg w) : FnG P w K mg base 2 T.most_table.f T.most_table.fd [] (spF K 0 c_most_table) := by
  have nd := sc_most_table.nd
  refine fn_imp (fn_L3 (k := 1) T.most_table.F sc_most_table rfl (by decide) fun cdv A outer s H vs Q E hr gd => (ssj_one (sj_ret (ej_tup (asj_cons (aj_e (ej_call (ok_state_by_value T) (hr.mono (by omega)) gd rfl T.state_by_value.M T.state_by_value.F.kp T.state_by_value.B (asj_cons (aj_e (ej_tup (asj_cons (aj_e ej_str) (asj_cons (aj_e ej_int) asj_nil)))) (asj_cons (aj_e (ej_tup (asj_cons (aj_e ej_str) (asj_cons (aj_e ej_int) asj_nil)))) asj_nil)))) (asj_cons (aj_e (ej_call (ok_state_by_value T) (hr.mono (by omega)) gd rfl T.state_by_value.M T.state_by_value.F.kp T.state_by_value.B (asj_cons (aj_e (ej_tup (asj_cons (aj_e ej_str) (asj_cons (aj_e ej_int) asj_nil)))) (asj_cons (aj_e (ej_tup (asj_cons (aj_e ej_str) (asj_cons (aj_e ej_int) asj_nil)))) asj_nil)))) (asj_cons (aj_e (ej_call (ok_state_by_value T) (hr.mono (by omega)) gd rfl T.state_by_value.M T.state_by_value.F.kp T.state_by_value.B (asj_cons (aj_e (ej_tup (asj_cons (aj_e ej_str) (asj_cons (aj_e ej_int) asj_nil)))) (asj_cons (aj_e (ej_tup (asj_cons (aj_e ej_str) (asj_cons (aj_e ej_int) asj_nil)))) asj_nil)))) asj_nil))))))) ?_
  intro Γ κ Ex h
  unfold c_most_table at h
  split at h
  case h_2 => exact h.elim
  have hz : 2 ≤ sizeLine := by rw [sizeLine_eq]; decide
  have e0 : ∀ (κ : List Arg → List S → Prop) (Ex : Xk), κ [.val (entD false 1), .val (entD false 2)] [] → (aCons (aE (sTup (aCons (aE (sC (D.str (Str.ofString "old")))) (aCons (aE (sC (D.int 1))) aNil)))) (aCons (aE (sTup (aCons (aE (sC (D.str (Str.ofString "old")))) (aCons (aE (sC (D.int 2))) aNil)))) aNil)) [] κ Ex := fun κ _ h => ⟨hz, hz, h⟩
  have e1 : ∀ (κ : List Arg → List S → Prop) (Ex : Xk), κ [.val (entD false 1), .val (entD false 1)] [] → (aCons (aE (sTup (aCons (aE (sC (D.str (Str.ofString "old")))) (aCons (aE (sC (D.int 1))) aNil)))) (aCons (aE (sTup (aCons (aE (sC (D.str (Str.ofString "old")))) (aCons (aE (sC (D.int 1))) aNil)))) aNil)) [] κ Ex := fun κ _ h => ⟨hz, hz, h⟩
  have e2 : ∀ (κ : List Arg → List S → Prop) (Ex : Xk), κ [.val (entD false 1), .val (entD true 1)] [] → (aCons (aE (sTup (aCons (aE (sC (D.str (Str.ofString "old")))) (aCons (aE (sC (D.int 1))) aNil)))) (aCons (aE (sTup (aCons (aE (sC (D.str (Str.ofString "new")))) (aCons (aE (sC (D.int 1))) aNil)))) aNil)) [] κ Ex := fun κ _ h => ⟨hz, hz, h⟩
  unfold bodyF
  simp only [zRet, sTup]
  rw [aCons, aE]
  generalize (aCons (aE (sTup (aCons (aE (sC (D.str (Str.ofString "old")))) (aCons (aE (sC (D.int 1))) aNil)))) (aCons (aE (sTup (aCons (aE (sC (D.str (Str.ofString "old")))) (aCons (aE (sC (D.int 2))) aNil)))) aNil)) = g0 at e0 ⊢
  generalize (aCons (aE (sTup (aCons (aE (sC (D.str (Str.ofString "old")))) (aCons (aE (sC (D.int 1))) aNil)))) (aCons (aE (sTup (aCons (aE (sC (D.str (Str.ofString "old")))) (aCons (aE (sC (D.int 1))) aNil)))) aNil)) = g1 at e1 ⊢
  generalize (aCons (aE (sTup (aCons (aE (sC (D.str (Str.ofString "old")))) (aCons (aE (sC (D.int 1))) aNil)))) (aCons (aE (sTup (aCons (aE (sC (D.str (Str.ofString "new")))) (aCons (aE (sC (D.int 1))) aNil)))) aNil)) = g2 at e2 ⊢
  generalize hΓ : ([] ++ List.replicate (N_most_table.length - ([] : List S).length) S.un : List S) = Γ0
  have hΓ : Γ0 = [] := by rw [← hΓ]; rfl
  subst hΓ
  refine callV (as := [.val (entD false 1), .val (entD false 2)]) (ds := [(entD false 1), (entD false 2)]) (fun κ h => e0 κ _ h) ⟨rfl, rfl, trivial⟩ rfl fun K E hK hE => hK _ ?_
  rw [aCons, aE]
  refine callV (as := [.val (entD false 1), .val (entD false 1)]) (ds := [(entD false 1), (entD false 1)]) (fun κ h => e1 κ _ h) ⟨rfl, rfl, trivial⟩ rfl fun K E hK hE => hK _ ?_
  rw [aCons, aE]
  refine callV (as := [.val (entD false 1), .val (entD true 1)]) (ds := [(entD false 1), (entD true 1)]) (fun κ h => e2 κ _ h) ⟨rfl, rfl, trivial⟩ rfl fun K E hK hE => hK _ ?_
  rw [aNil]
  exact ⟨by rw [sizeLine_eq]; decide, h⟩

end
end L3
namespace L3
open PySem PySem.Spec PyProof.Rows L2
section
variable {P : Program} {w : World} {K : PySem.W.Frag} {mg : Str → Option Value} {base : Heap}

theorem ok_told_table (T : Txt K mg w) : FnG P w K mg base 3 T.told_table.f T.told_table.fd ["name"] (spF K 1 c_told_table) := by
  have nd := sc_told_table.nd
  refine fn_imp (fn_L3 (k := 2) T.told_table.F sc_told_table rfl (by decide) fun cdv A outer s H vs Q E hr gd => (ssj_cons (sj_if (tj_not (tj_tr (aj_e (ej_callB call_isi k_isi rfl T.b_isinstance rfl (asj_cons (aj_v (pv 0)) (asj_cons (aj_e (ej_ty rfl T.b_str rfl)) asj_nil)))) (fun _ => rfl))) (ssj_one sj_no) ssj_nil)
    (ssj_cons (sj_if (tj_cmp (op_eqP (hu64 hr)) k_eq (aj_v (pv 0)) (aj_e ej_str) (nomark _)) (ssj_one (sj_ret (ej_call0 (ok_vote_table T) (hr.mono (by omega)) gd rfl T.vote_table.M T.vote_table.F.kp T.vote_table.B))) ssj_nil)
    (ssj_cons (sj_if (tj_cmp (op_eqP (hu64 hr)) k_eq (aj_v (pv 0)) (aj_e ej_str) (nomark _)) (ssj_one (sj_ret (ej_call0 (ok_most_table T) (hr.mono (by omega)) gd rfl T.most_table.M T.most_table.F.kp T.most_table.B))) ssj_nil)
    (ssj_cons (sj_if (tj_cmp (op_notG T.d_RULES.P) (k_notG T.d_RULES.P) (aj_v (pv 0)) (aj_e (ej_globD rfl T.d_RULES.M)) (by rfl)) (ssj_one sj_no) ssj_nil)
    (ssj_cons (sj_asg (ws := [1]) (ej_itG T.d_RULES.P (aj_e (ej_globD rfl T.d_RULES.M)) (aj_v (pv 0)) (fun _ _ => rfl)) (gj_name (pg_name (i := 1) nd rfl (Or.inl rfl)) (by simp)))
    (ssj_one (sj_ret (ej_call (ok_one_state T) (hr.mono (by omega)) gd rfl T.one_state.M T.one_state.F.kp T.one_state.B (asj_cons (aj_v (pv 1)) asj_nil)))))))))) ?_
  intro Γ κ Ex h
  unfold c_told_table at h
  split at h
  case h_2 => exact h.elim
  rename_i z
  obtain ⟨d, hd, h⟩ := h
  simp [isT, tyOk, D.tn, eqD_strs, okEq, D.pl, D.dep]
  unfold toldT at hd
  by_cases a1 : z = Str.ofString "vote"
  · rw [if_pos a1] at hd
    cases hd
    exact .inr ⟨a1, callV (as := []) (ds := []) (fun κ h => h) trivial rfl fun K E hK hE => hK _ h⟩
  · rw [if_neg a1] at hd
    refine .inl ⟨a1, ?_⟩
    by_cases a2 : z = Str.ofString "most"
    · rw [if_pos a2] at hd
      cases hd
      exact .inr ⟨a2, callV (as := []) (ds := []) (fun κ h => h) trivial rfl fun K E hK hE => hK _ h⟩
    · rw [if_neg a2] at hd
      obtain ⟨y, ey, e⟩ := Option.map_eq_some_iff.mp hd
      subst e
      refine .inl ⟨a2, ⟨y, ey⟩, y, ey, callV (as := [.slot 1]) (ds := [.fn y]) (fun κ h => by simp; exact h) ⟨rfl, trivial⟩ rfl fun K E hK hE => ⟨?_, hK _ h⟩⟩
      exact List.mem_map.mpr ⟨(z, y), lookup_mem ey, rfl⟩

end
end L3
namespace L3
open PySem PySem.Spec PyProof.Rows L2
section
variable {P : Program} {w : World} {K : PySem.W.Frag} {mg : Str → Option Value} {base : Heap}
def foK (e : Bool × Int) (i : Nat) : Key := if chB e.1 i = true then chK else .inl e.2
def foL (st : List (Bool × Int)) : List Key := st.mapIdx fun i e => foK e i
def c_followers_in : SE := fun Γ κ _ => ∃ st : List (Bool × Int), Γ = [.v (.tup (st.map fun e => entD e.1 e.2))] ∧ st.length ≤ 1000 ∧ κ (.ls ((foL st).map keyD)) Γ

theorem ok_followers_in (T : Txt K mg w) : FnG P w K mg base 2 T.followers_in.f T.followers_in.fd ["entries"] (spF K 1 c_followers_in) := by
  have nd := sc_followers_in.nd
  refine fn_imp (fn_L3 (k := 1) T.followers_in.F sc_followers_in rfl (by decide) fun cdv A outer s H vs Q E hr gd => (ssj_one (sj_ret (ej_comp (own := [("number", 1), ("entry", 2)]) rfl nd (blkOk_by (N := N_followers_in) (sc := defScope st_followers_in) (by decide +kernel)) (ij_enum rfl T.b_enumerate (asj_cons (aj_v (pv 0)) asj_nil)) (fun _ _ _ _ _ => (gj_tup (n := 2) rfl (gsj_cons (gj_name (pg_name (i := 1) nd rfl (Or.inl rfl)) (by simp)) (gsj_cons (gj_name (pg_name (i := 2) nd rfl (Or.inl rfl)) (by simp)) gsj_nil)))) (fun _ _ _ _ _ => cj_nil) (fun _ _ _ _ _ => (ej_if (tj_tr (aj_e (ej_call (ok_is_change T) (hr.mono (by omega)) gd rfl T.is_change.M T.is_change.F.kp T.is_change.B (asj_cons (aj_v (pv 2)) (asj_cons (aj_v (pv 1)) asj_nil)))) (fun _ => rfl)) (ej_globS rfl T.g_CHANGED) (ej_ix ix_seq k_ix (aj_v (pv 2)) (aj_e ej_int) (fun _ _ => rfl)))))))) ?_
  rintro Γ κ Ex ⟨st, rfl, hl, h⟩
  have hz := sizeLine_eq
  simp [hz]
  refine ⟨by rw [enum_len, List.length_map]; omega, ?_⟩
  unfold enum
  rw [List.length_map]
  refine compGo_of (fun i => keyD (foK (st.getD i (false, 0)) i)) (fun i hi Y hY => ?_) ?_
  · have hi : i < st.length := by simpa using hi
    have e1 : (st.map fun e => entD e.1 e.2).getD i .non = entD st[i].1 st[i].2 := by rw [List.getD_eq_getElem?_getD, List.getElem?_map, List.getElem?_eq_getElem hi]; rfl
    have e2 : st.getD i (false, 0) = st[i] := by rw [List.getD_eq_getElem?_getD, List.getElem?_eq_getElem hi]; rfl
    rw [e1]
    rw [e2] at hY
    generalize st[i] = e at hY
    obtain ⟨b, n⟩ := e
    simp
    refine callV (as := [.slot 2, .slot 1]) (ds := [entD b n, .int (i : Nat)]) (fun κ h => by simp; exact h) ⟨rfl, by simp, trivial⟩ rfl fun K E hK hE => ⟨b, n, i, rfl, hK _ ?_⟩
    unfold foK at hY
    cases hb : chB b i with
    | true =>
      rw [hb] at hY
      simp
      exact hY
    | false =>
      rw [hb] at hY
      simp [entD]
      exact hY
  · have : (List.range st.length).map (fun i => keyD (foK (st.getD i (false, 0)) i)) = (foL st).map keyD := by
      refine List.ext_getElem (by simp [foL]) fun i h1 h2 => ?_
      have hi : i < st.length := by simpa using h1
      have e2 : st.getD i (false, 0) = st[i] := by rw [List.getD_eq_getElem?_getD, List.getElem?_eq_getElem hi]; rfl
      rw [List.getElem_map, List.getElem_range, List.getElem_map]
      unfold foL
      rw [List.getElem_mapIdx, e2]
    rw [this]
    exact h

end
end L3
namespace L3
open PySem PySem.Spec PyProof.Rows L2
section
variable {P : Program} {w : World} {K : PySem.W.Frag} {mg : Str → Option Value} {base : Heap}
def fsT (tb : List (List (Bool × Int))) : List (List Key) := tb.map foL
def dsD (tb : List (List (Bool × Int))) (s : Nat) : D := match fstR (fsT tb) (tb.length + 1) s with | some v => .int (v : Nat) | none => .non
def c_distances : SE := fun Γ κ _ => ∃ tb : List (List (Bool × Int)), Γ = [.v (tbD tb)] ∧ WfT tb ∧ tb.length ≤ 6 ∧ κ (.leaf (.tup ((List.range tb.length).map (dsD tb)))) Γ
theorem fsT_ok {tb : List (List (Bool × Int))} (wt : WfT tb) : FsOk (fsT tb) := by
  refine ⟨fun f hf => ?_, fun f hf k hk => ?_⟩
  · obtain ⟨st, hst, rfl⟩ := List.mem_map.mp hf
    have := wt.len st hst
    simp [foL]
    omega
  · obtain ⟨st, hst, rfl⟩ := List.mem_map.mp hf
    unfold foL at hk
    obtain ⟨i, hi, rfl⟩ := List.mem_mapIdx.mp hk
    have nx := wt.nx st hst _ (List.getElem_mem hi)
    unfold foK
    split
    · exact .inl rfl
    · refine .inr ⟨st[i].2.toNat, ?_, ?_⟩
      · unfold fsT
        rw [List.length_map]
        omega
      · unfold stK
        rw [Int.toNat_of_nonneg nx.1]

theorem ok_distances (T : Txt K mg w) : FnG P w K mg base 3 T.distances.f T.distances.fd ["table"] (spF K 1 c_distances) := by
  have nd := sc_distances.nd
  refine fn_imp (fn_L3 (k := 2) T.distances.F sc_distances rfl (by decide) fun cdv A outer s H vs Q E hr gd => (ssj_cons (sj_setDcL (i := 1) (own := [("state", 2), ("entries", 3)]) rfl nd rfl rfl (sw_trueD rfl rfl rfl (by decide +kernel)) (blkOk_by (N := N_distances) (sc := defScope st_distances) (by decide +kernel)) (ij_enum rfl T.b_enumerate (asj_cons (aj_v (pv 0)) asj_nil)) (fun _ _ _ _ _ => (gj_tup (n := 2) rfl (gsj_cons (gj_name (pg_name (i := 2) nd rfl (Or.inl rfl)) (by simp)) (gsj_cons (gj_name (pg_name (i := 3) nd rfl (Or.inl rfl)) (by simp)) gsj_nil)))) (fun _ _ _ _ _ => cj_nil) (fun _ _ _ _ _ => (aj_e (ej_var (pv 2)))) (fun _ _ _ _ _ => (aj_e (ej_call (ok_followers_in T) (hr.mono (by omega)) gd rfl T.followers_in.M T.followers_in.F.kp T.followers_in.B (asj_cons (aj_v (pv 3)) asj_nil)))))
    (ssj_cons (sj_asg (ws := [4]) (ej_call (ok_fewest_steps T) (hr.mono (by omega)) gd rfl T.fewest_steps.M T.fewest_steps.F.kp T.fewest_steps.B (asj_cons (aj_v (pv 1)) (asj_cons (aj_e (ej_lst (asj_cons (aj_e (ej_globS rfl T.g_CHANGED)) asj_nil))) asj_nil))) (gj_name (pg_name (i := 4) nd rfl (Or.inr rfl)) (by simp)))
    (ssj_one (sj_ret (ej_callTy call_tuple_of k_tuple rfl T.b_tuple rfl (asj_cons (aj_e (ej_comp (own := [("state", 2)]) rfl nd (blkOk_by (N := N_distances) (sc := defScope st_distances) (by decide +kernel)) (ij_range1 rfl T.b_range (asj_cons (aj_e (ej_callB call_len k_len rfl T.b_len PySem.boot_len (asj_cons (aj_v (pv 0)) asj_nil))) asj_nil)) (fun _ _ _ _ _ => (gj_name (pg_name (i := 2) nd rfl (Or.inl rfl)) (by simp))) (fun _ _ _ _ _ => cj_nil) (fun _ _ _ _ _ => (ej_fget1 (hu1 hr) (pv 4) (aj_v (pv 2)))))) asj_nil))))))) ?_
  rintro Γ κ Ex ⟨tb, rfl, wt, lt, h⟩
  have hz := sizeLine_eq
  have lf : (fsT tb).length = tb.length := List.length_map ..
  unfold tbD at h ⊢
  refine seq_cut (fun Γ' => ∃ s2 s3, Γ' = [.v (.tup (tb.map fun st => D.tup (st.map fun e => entD e.1 e.2))), .v (.dil (foD (fsT tb))), s2, s3, .un]) ?_ ?_
  rotate_left
  · intro Z hZ
    simp
    refine ⟨by rw [enum_len, List.length_map, hz]; omega, ?_⟩
    unfold enum
    rw [List.length_map]
    refine dkGo_of (fun i => (stK i, D.lst (((fsT tb).getD i []).map keyD))) (fun i hi Y hY => ?_) ?_ ?_
    · have hi : i < tb.length := by simpa using hi
      have e1 : (tb.map fun st => D.tup (st.map fun e => entD e.1 e.2)).getD i .non = .tup (tb[i].map fun e => entD e.1 e.2) := by rw [List.getD_eq_getElem?_getD, List.getElem?_map, List.getElem?_eq_getElem hi]; rfl
      have e2 : (fsT tb).getD i [] = foL tb[i] := by unfold fsT; rw [List.getD_eq_getElem?_getD, List.getElem?_map, List.getElem?_eq_getElem hi]; rfl
      have l27 := wt.len _ (List.getElem_mem hi)
      rw [e1]
      rw [e2] at hY
      generalize tb[i] = st at hY l27
      simp [sVar]
      refine callV (as := [.slot 3]) (ds := [.tup (st.map fun e => entD e.1 e.2)]) (fun κ h => by simp; exact h) ⟨rfl, trivial⟩ rfl fun K E hK hE => ⟨st, rfl, by omega, hK _ ?_⟩
      simp
      exact hY
    · rw [List.nil_append, List.map_map]
      refine List.pairwise_map.mpr ?_
      exact List.Pairwise.imp (fun {a b} hab e => by
        have e : stK a = stK b := e
        have := stK_inj e
        omega) List.pairwise_lt_range
    · simp
      refine ⟨_, (List.range tb.length).map fun i => .lst (((fsT tb)[i]?.getD []).map keyD), ⟨rfl, by rw [List.map_map]; rfl⟩, ?_⟩
      have ez : ((List.range tb.length).map ((fun x : Key × D => x.fst) ∘ fun i => (stK i, D.lst (((fsT tb)[i]?.getD []).map keyD)))).zip ((List.range tb.length).map fun i => D.lst (((fsT tb)[i]?.getD []).map keyD)) = foD (fsT tb) := by
        rw [List.zip_map']
        unfold foD
        rw [lf]
        simp only [Function.comp, List.getD_eq_getElem?_getD]
      rw [ez]
      exact hZ _ ⟨_, _, rfl⟩
  rintro _ ⟨s2, s3, rfl⟩
  refine seq_cut (fun Γ' => ∃ sd, Γ' = [.v (.tup (tb.map fun st => D.tup (st.map fun e => entD e.1 e.2))), .v (.dil (foD (fsT tb))), s2, s3, .v (.dic sd)] ∧ ∀ s, s < tb.length → lookD sd (stK s) = (fstR (fsT tb) (tb.length + 1) s).map fun v => .int (v : Nat)) ?_ ?_
  rotate_left
  · intro Z hZ
    simp
    refine callV (as := [.slot 1, .val (.lst [.str "changed"])]) (ds := [.dil (foD (fsT tb)), .lst [.str "changed"]]) (fun κ h => by simp; exact ⟨by rw [hz]; decide, h⟩) ⟨rfl, rfl, trivial⟩ rfl fun K E hK hE => ⟨fsT tb, rfl, fsT_ok wt, by omega, fun sd hsd => hK _ (hZ _ ⟨sd, rfl, fun s hs => by rw [hsd s (by omega), lf]⟩)⟩
  rintro _ ⟨sd, rfl, hsd⟩
  simp
  refine ⟨by omega, by rw [hz]; omega, ?_⟩
  refine compGo_of (dsD tb) (fun s hs Y hY => ?_) h
  have hs : s < tb.length := by simpa using hs
  simp
  refine ⟨sd, .inl rfl, stK s, rfl, ?_⟩
  rw [hsd s hs]
  unfold dsD at hY
  cases e : fstR (fsT tb) (tb.length + 1) s with
  | some v =>
    rw [e] at hY
    exact hY
  | none =>
    rw [e] at hY
    exact hY

end
end L3
namespace L3
open PySem PySem.Spec PyProof.Rows L2
section
variable {P : Program} {w : World} {K : PySem.W.Frag} {mg : Str → Option Value} {base : Heap}
def c_settled : SE := fun Γ κ _ => ∃ tb : List (List (Bool × Int)), Γ = [.v (tbD tb)] ∧ WfT tb ∧ tb.length ≤ 6 ∧ κ (.leaf (.tup (((List.range tb.length).filter fun s => (fstR (fsT tb) (tb.length + 1) s).isNone).map fun s => .int (s : Nat)))) Γ

theorem ok_settled (T : Txt K mg w) : FnG P w K mg base 4 T.settled.f T.settled.fd ["table"] (spF K 1 c_settled) := by
  have nd := sc_settled.nd
  refine fn_imp (fn_L3 (k := 3) T.settled.F sc_settled rfl (by decide) fun cdv A outer s H vs Q E hr gd => (ssj_one (sj_ret (ej_callTy call_tuple_of k_tuple rfl T.b_tuple rfl (asj_cons (aj_e (ej_comp (own := [("state", 1), ("distance", 2)]) rfl nd (blkOk_by (N := N_settled) (sc := defScope st_settled) (by decide +kernel)) (ij_enum rfl T.b_enumerate (asj_cons (aj_e (ej_call (ok_distances T) (hr.mono (by omega)) gd rfl T.distances.M T.distances.F.kp T.distances.B (asj_cons (aj_v (pv 0)) asj_nil))) asj_nil)) (fun _ _ _ _ _ => (gj_tup (n := 2) rfl (gsj_cons (gj_name (pg_name (i := 1) nd rfl (Or.inl rfl)) (by simp)) (gsj_cons (gj_name (pg_name (i := 2) nd rfl (Or.inl rfl)) (by simp)) gsj_nil)))) (fun _ _ _ _ _ => (cj_one (tj_cmp op_isN k_isN (aj_v (pv 2)) (aj_e ej_non) (nomark _)))) (fun _ _ _ _ _ => (ej_var (pv 1))))) asj_nil))))) ?_
  rintro Γ κ Ex ⟨tb, rfl, wt, lt, h⟩
  have hz := sizeLine_eq
  simp
  refine callV (as := [.slot 0]) (ds := [tbD tb]) (fun κ h => by simp; exact h) ⟨rfl, trivial⟩ rfl fun K E hK hE => ⟨tb, rfl, wt, lt, hK _ ?_⟩
  simp
  refine ⟨by rw [enum_len, List.length_map, List.length_range, hz]; omega, ?_⟩
  unfold enum
  rw [List.length_map, List.length_range]
  have gd : ∀ s, s < tb.length → ((List.range tb.length).map (dsD tb)).getD s .non = dsD tb s := fun s hs => by
    rw [List.getD_eq_getElem?_getD, List.getElem?_map, List.getElem?_range hs]
    rfl
  have ge : (List.range tb.length).map (fun i => D.tup [.int (0 + (i : Nat)), ((List.range tb.length).map (dsD tb)).getD i .non]) = (List.range tb.length).map fun i => D.tup [.int (i : Nat), dsD tb i] := List.map_congr_left fun i hi => by
    rw [gd i (by simpa using hi), Int.zero_add]
  rw [ge]
  refine compGo_map (fun d => match d with | .tup [.int i, x] => if x.isNon = true then some (.int i) else none | _ => none) (fun d hd Y N hm => ?_) ?_
  · obtain ⟨s, hs, rfl⟩ := List.mem_map.mp hd
    simp at hm ⊢
    by_cases hn : (dsD tb s).isNon = true
    · rw [if_pos hn] at hm
      exact .inr ⟨hn, hm⟩
    · rw [if_neg hn] at hm
      exact .inl ⟨by simpa using hn, hm⟩
  · have : ∀ l : List Nat, List.filterMap (fun d => match d with | D.tup [.int i, x] => if x.isNon = true then some (D.int i) else none | _ => none) (l.map fun i => D.tup [.int (i : Nat), dsD tb i]) = (l.filter fun s => (fstR (fsT tb) (tb.length + 1) s).isNone).map fun s => .int (s : Nat) := fun l => by
      induction l with
      | nil => rfl
      | cons s l ih =>
        rw [List.map_cons, List.filterMap_cons, List.filter_cons, ih]
        unfold dsD
        cases fstR (fsT tb) (tb.length + 1) s with
        | some v => rfl
        | none => rfl
    rw [this]
    exact h

end
end L3
namespace L3
open PySem PySem.Spec PyProof.Rows L2
section
variable {P : Program} {w : World} {K : PySem.W.Frag} {mg : Str → Option Value} {base : Heap}

theorem ok__law_stream (T : Txt K mg w) : FnG P w K mg base 1 T._law_stream.f T._law_stream.fd ["_law_script"] (spF K 1 c__law_well) := by
  have nd := sc__law_stream.nd
  refine fn_imp (fn_L3 (k := 0) T._law_stream.F sc__law_stream rfl (by decide) fun cdv A outer s H vs Q E hr gd => (ssj_cons (sj_par (i := 1) (j := 2) rfl nd rfl rfl (by decide) rfl rfl (asj_cons (aj_e (ej_comp (own := [("_law_cell", 3)]) rfl nd (blkOk_by (N := N__law_stream) (sc := defScope st__law_stream) (by decide +kernel)) (ij_seq (aj_e (ej_slice sl_seq k_sl (aj_v (pv 0)) oj_none (oj_some (aj_e ej_int))))) (fun _ _ _ _ _ => (gj_name (pg_name (i := 3) nd rfl (Or.inl rfl)) (by simp))) (fun _ _ _ _ _ => cj_nil) (fun _ _ _ _ _ => (ej_callB call_abs k_abs rfl T.b_abs rfl (asj_cons (aj_v (pv 3)) asj_nil))))) (asj_cons (aj_e ej_int) asj_nil)) rfl)
    (ssj_cons (sj_for (ws := [3]) (passes_of rfl) rfl (ij_seq (aj_v (pv 1))) (gj_name (pg_name (i := 3) nd rfl (Or.inl rfl)) (by simp)) (ssj_one (sj_asg (ws := [2]) (ej_op op_mod k_mod (aj_e (ej_op op_addA k_add (aj_e (ej_op op_mulA k_mul (aj_v (pv 2)) (aj_e ej_int))) (aj_v (pv 3)))) (aj_e ej_int)) (gj_name (pg_name (i := 2) nd rfl (Or.inl rfl)) (by simp)))))
    (ssj_one (sj_ret (ej_lstO (osj_cons (ej_comp (own := [("_law_cell", 3)]) rfl nd (blkOk_by (N := N__law_stream) (sc := defScope st__law_stream) (by decide +kernel)) (ij_seq (aj_v (pv 1))) (fun _ _ _ _ _ => (gj_name (pg_name (i := 3) nd rfl (Or.inl rfl)) (by simp))) (fun _ _ _ _ _ => (cj_one (tj_cmp op_ge k_ge (aj_v (pv 3)) (aj_e (ej_op op_pow k_pow (aj_e ej_int) (aj_e ej_int))) (nomark _)))) (fun _ _ _ _ _ => (ej_var (pv 3)))) (osj_cons (ej_var (pv 2)) (osj_cons ej_int osj_nil))))))))) ?_
  intro Γ κ Ex h
  unfold c__law_well at h
  split at h
  case h_2 => exact h.elim
  rename_i ns
  obtain ⟨hl, h⟩ := h
  simp
  have hcut : (cut ns none (some 60)).length ≤ 63 := by unfold cut; rw [List.length_take, List.length_drop]; omega
  generalize cut ns none (some 60) = ms at hcut ⊢
  refine ⟨Nat.le_trans hcut (by decide), ?_⟩
  refine compGo_map (fun d => match d with | .int i => some (.int (if i < 0 then -i else i)) | _ => none) (fun d hd Y N hm => ?_) ?_
  · obtain ⟨i, hi, rfl⟩ := List.mem_map.mp hd
    simpa using hm
  have e1 : List.filterMap (fun d => match d with | .int i => some (.int (if i < 0 then -i else i)) | _ => none) (ms.map D.int) = (ms.map fun i => if i < 0 then -i else i).map D.int := by
    rw [List.filterMap_map, List.map_map]
    exact congrFun (List.filterMap_eq_map' (f := fun i : Int => D.int (if i < 0 then -i else i))) ms
  rw [e1]
  generalize hcs : (ms.map fun i => if i < 0 then -i else i) = cs
  have hc0 : ∀ x ∈ cs, 0 ≤ x := by
    intro x hx
    rw [← hcs] at hx
    obtain ⟨i, _, rfl⟩ := List.mem_map.mp hx
    split <;> omega
  have hcl : cs.length = ms.length := by rw [← hcs, List.length_map]
  simp
  refine forGo_inv (fun i Γ => ∃ (mx : Int) (s : S), Γ = [.v (.scr ns), .v (.lst (cs.map D.int)), .v (.int mx), s] ∧ 0 ≤ mx ∧ mx < 4294967291) ?_ ⟨2904, .un, rfl, by decide, by decide⟩ ?_
  · rintro i d hd Γ ⟨mx, s, rfl, m0, m1⟩ N hN
    obtain ⟨x, hx, rfl⟩ := List.mem_map.mp (List.mem_of_getElem? hd)
    simp
    exact ⟨cmul_small (by omega) (by decide), hN _ ⟨_, _, rfl, Int.emod_nonneg _ (by decide), Int.emod_lt_of_pos _ (by decide)⟩⟩
  · rintro Γ ⟨mx, s, rfl, m0, m1⟩
    simp
    refine ⟨by rw [hcl]; exact Nat.le_trans hcut (by decide), ?_⟩
    refine compGo_map (fun d => match d with | .int i => (if (10 : Int) ^ 18 ≤ i then some (.int i) else none) | _ => none) (fun d hd Y N hm => ?_) ?_
    · obtain ⟨i, hi, rfl⟩ := List.mem_map.mp hd
      simp at hm ⊢
      refine ⟨by unfold CPow; decide, ?_⟩
      by_cases hb : (1000000000000000000 : Int) ≤ i
      · simp [hb] at hm ⊢; exact .inr hm
      · simp [hb] at hm ⊢; exact ⟨by omega, hm⟩
    have e2 : List.filterMap (fun d => match d with | .int i => (if (10 : Int) ^ 18 ≤ i then some (.int i) else none) | _ => none) (cs.map D.int) = (cs.filter fun i => decide ((10 : Int) ^ 18 ≤ i)).map D.int := by
      rw [List.filterMap_map]
      clear hcs hc0 hcl
      induction cs with
      | nil => rfl
      | cons c cs ih =>
        rw [List.filterMap_cons, List.filter_cons]
        have ih' := ih
        simp only [Function.comp_apply] at ih' ⊢
        by_cases hb : (10 : Int) ^ 18 ≤ c
        · rw [if_pos hb, if_pos (by simpa using hb), List.map_cons]
          exact congrArg _ ih'
        · rw [if_neg hb, if_neg (by simpa using hb)]
          exact ih'
    rw [e2]
    simp
    refine ⟨by decide, h _ ⟨cs.filter (fun i => decide ((10 : Int) ^ 18 ≤ i)), mx, 0, by simp, ⟨by have := List.length_filter_le (fun i => decide ((10 : Int) ^ 18 ≤ i)) cs; omega, fun x hx => hc0 x (List.mem_filter.mp hx).1⟩, m0, m1, Int.le_refl _, by simp⟩⟩

end
end L3
namespace L3
open PySem PySem.Spec PyProof.Rows L2
section
variable {P : Program} {w : World} {K : PySem.W.Frag} {mg : Str → Option Value} {base : Heap}

theorem ok__law_draw (T : Txt K mg w) : FnG P w K mg base 1 T._law_draw.f T._law_draw.fd ["_law_stream_here", "_law_many"] (spF K 2 c_tank_draw) := by
  have nd := sc__law_draw.nd
  refine fn_imp (fn_L3 (k := 0) T._law_draw.F sc__law_draw rfl (by decide) fun cdv A outer s H vs Q E hr gd => (ssj_cons (sj_setF (pv 0) (c := 2) (ej_op op_addA k_add (aj_e (ej_q (qj_at (pv 0) (c := 2)))) (aj_e ej_int)))
    (ssj_cons (sj_while (passes_of rfl) (tj_atNe (hu64 hr) (pv 0) (c := 0) (nomark _)) (ssj_cons (sj_asg (ws := [2]) (ej_pop0 (pv 0) (c := 0)) (gj_name (pg_name (i := 2) nd rfl (Or.inl rfl)) (by simp)))
    (ssj_one (sj_if (tj_cmp op_gt k_gt (aj_v (pv 2)) (aj_e ej_int) (nomark _)) (ssj_cons (sj_app0 (pv 0) (c := 0) (qj_op op_fdivW (qj_var (pv 2)) (qj_var (pv 1))))
    (ssj_one (sj_ret (ej_op op_mod k_mod (aj_v (pv 2)) (aj_v (pv 1)))))) ssj_nil))))
    (ssj_cons (sj_asg (ws := [3]) (ej_op op_mod k_mod (aj_e (ej_op op_addA k_add (aj_e (ej_q (qj_at (pv 0) (c := 1)))) (aj_e (ej_op op_mulA k_mul (aj_e ej_int) (aj_e (ej_q (qj_at (pv 0) (c := 2)))))))) (aj_e ej_int)) (gj_name (pg_name (i := 3) nd rfl (Or.inl rfl)) (by simp)))
    (ssj_cons (sj_asg (ws := [3]) (ej_op op_mod k_mod (aj_e (ej_op op_mulA k_mul (aj_v (pv 3)) (aj_e (ej_op op_addA k_add (aj_e (ej_op op_mod k_mod (aj_v (pv 3)) (aj_e ej_int))) (aj_e ej_int))))) (aj_e ej_int)) (gj_name (pg_name (i := 3) nd rfl (Or.inl rfl)) (by simp)))
    (ssj_one (sj_ret (ej_op op_mod k_mod (aj_e (ej_op op_fdivW k_fdiv (aj_e (ej_op op_mod k_mod (aj_e (ej_op op_addA k_add (aj_e (ej_op op_mulA k_mul (aj_v (pv 3)) (aj_v (pv 3)))) (aj_e (ej_op op_mulA k_mul (aj_e ej_int) (aj_e (ej_q (qj_at (pv 0) (c := 2)))))))) (aj_e ej_int))) (aj_e ej_int))) (aj_v (pv 1)))))))))) ?_
  intro Γ κ Ex h
  unfold c_tank_draw at h
  split at h
  case h_2 => exact h.elim
  rename_i t below
  obtain ⟨m, ⟨big, mx, cur, rfl, hb, m0, m1, c0, c1⟩, hm, b0, b1, h⟩ := h
  have hz := sizeLine_eq
  simp
  refine ⟨some 0, _, ⟨rfl, rfl⟩, ⟨_, rfl⟩, ?_⟩
  refine ⟨fun k Γ => ∃ big s, Γ = [.o (some 0) (tankT big mx (cur + 1)), .v (.int below), s, .un] ∧ (big.length ≤ 63 ∧ ∀ x ∈ big, 0 ≤ x) ∧ big.length = k, ⟨_, big, .un, rfl, hb, rfl⟩, ?_⟩
  rintro k Γ ⟨big, s, rfl, hb, rfl⟩
  cases big with
  | nil =>
    simp [pls]
    generalize hX : (mx + 2246822519 * (cur + 1)) % 4294967291 = z
    have z0 : 0 ≤ z := by rw [← hX]; exact Int.emod_nonneg _ (by decide)
    have z1 : z < 4294967291 := by rw [← hX]; exact Int.emod_lt_of_pos _ (by decide)
    have y0 := Int.emod_nonneg z (by decide : (65521 : Int) ≠ 0)
    have y1 := Int.emod_lt_of_pos z (by decide : (0 : Int) < 65521)
    generalize hY : z * (z % 65521 + 11) % 4294967279 = y
    have u0 : 0 ≤ y := by rw [← hY]; exact Int.emod_nonneg _ (by decide)
    have u1 : y < 4294967279 := by rw [← hY]; exact Int.emod_lt_of_pos _ (by decide)
    exact ⟨cmul_small (by decide) (by omega), cmul_small (by omega) (by omega), cmul_small (by omega) (by omega), cmul_small (by decide) (by omega), cdiv_small (by decide) (by decide), b0, h _ _ (Int.emod_nonneg _ (by omega)) (Int.emod_lt_of_pos _ b0) ⟨[], mx, cur + 1, rfl, ⟨by simp, fun _ h => (nomatch h)⟩, m0, m1, by omega, by omega⟩⟩
  | cons x xs =>
    have hlen : xs.length ≤ 62 := by have := hb.1; simp at this; omega
    simp [pls]
    refine ⟨⟨rfl, pls_ints xs⟩, _, _, ⟨rfl, rfl⟩, _, _, rfl, ?_⟩
    simp
    by_cases hx : x ≤ 0
    · exact .inl ⟨hx, xs.length, by omega, xs, rfl, ⟨by omega, fun y hy => hb.2 y (List.mem_cons_of_mem _ hy)⟩, rfl⟩
    · refine .inr ⟨by omega, x / below, ?_, ?_⟩
      · exact ⟨cdiv_small b0 b1, rfl⟩
      · refine ⟨_, _, ⟨rfl, rfl⟩, _, rfl, by simp [hz]; omega, ?_⟩
        simp
        refine ⟨b0, ?_⟩
        have := h (x % below) _ (Int.emod_nonneg _ (by omega)) (Int.emod_lt_of_pos _ b0) ⟨xs ++ [x / below], mx, cur + 1, rfl, ⟨by rw [List.length_append]; simp; omega, fun y hy => ?_⟩, m0, m1, by omega, by omega⟩
        · unfold tankT at this
          rw [List.map_append] at this
          exact this
        · rcases List.mem_append.mp hy with hy | hy
          · exact hb.2 y (List.mem_cons_of_mem _ hy)
          · rw [List.mem_singleton.mp hy]
            exact Int.ediv_nonneg (by omega) (by omega)

end
end L3
namespace L3
open PySem PySem.Spec PyProof.Rows L2
section
variable {P : Program} {w : World} {K : PySem.W.Frag} {mg : Str → Option Value} {base : Heap}

theorem ok__law_pick (T : Txt K mg w) : FnG P w K mg base 2 T._law_pick.f T._law_pick.fd ["_law_stream_here", "_law_items"] (spF K 2 c__law_pick) := by
  have nd := sc__law_pick.nd
  refine fn_imp (fn_L3 (k := 1) T._law_pick.F sc__law_pick rfl (by decide) fun cdv A outer s H vs Q E hr gd => (ssj_one (sj_ret (ej_ix ix_seq k_ix (aj_v (pv 1)) (aj_e (ej_call (ok__law_draw T) (hr.mono (by omega)) gd rfl T._law_draw.M T._law_draw.F.kp T._law_draw.B (asj_cons (aj_v (pv 0)) (asj_cons (aj_e (ej_callB call_len k_len rfl T.b_len PySem.boot_len (asj_cons (aj_v (pv 1)) asj_nil))) asj_nil)))) (fun _ _ => rfl))))) ?_
  intro Γ κ Ex h
  unfold c__law_pick at h
  split at h
  case h_2 => exact h.elim
  rename_i t xs
  obtain ⟨m, tk, hm, l0, l1, h⟩ := h
  simp
  refine callD (as := [.val (.int (xs.length : Nat))]) (ds := [.int (xs.length : Nat)]) rfl (fun κ h => by simp [sizeLine_eq]; first | exact h | exact ⟨by omega, h⟩) ⟨rfl, trivial⟩ rfl fun K E hK hE => ⟨m, tk, hm, by omega, by omega, fun r t' r0 r1 tk' => hK _ _ ?_⟩
  simp
  obtain ⟨k, rfl⟩ : ∃ k : Nat, r = (k : Int) := ⟨r.toNat, by omega⟩
  have hk : k < xs.length := by omega
  exact ⟨_, atI_lt hk, h _ _ (List.getElem_mem hk) tk'⟩

end
end L3
namespace L3
open PySem PySem.Spec PyProof.Rows L2
section
variable {P : Program} {w : World} {K : PySem.W.Frag} {mg : Str → Option Value} {base : Heap}
def c__law_names : SE := fun Γ κ _ => Γ = [] ∧ ∀ t, t.fz = .lst (names10.map D.str) → κ t Γ

theorem ok__law_names (T : Txt K mg w) : FnG P w K mg base 1 T._law_names.f T._law_names.fd [] (spF K 0 c__law_names) := by
  have nd := sc__law_names.nd
  refine fn_imp (fn_L3 (k := 0) T._law_names.F sc__law_names rfl (by decide) fun cdv A outer s H vs Q E hr gd => (ssj_one (sj_ret (ej_lst (asj_cons (aj_e ej_str) (asj_cons (aj_e ej_str) (asj_cons (aj_e ej_str) (asj_cons (aj_e ej_str) (asj_cons (aj_e ej_str) (asj_cons (aj_e ej_str) (asj_cons (aj_e ej_str) (asj_cons (aj_e ej_str) (asj_cons (aj_e ej_str) (asj_cons (aj_e ej_str) asj_nil)))))))))))))) ?_
  rintro Γ κ Ex ⟨rfl, h⟩
  have hz := sizeLine_eq
  simp [hz]
  exact h _ rfl

end
end L3
namespace L3
open PySem PySem.Spec PyProof.Rows L2
section
variable {P : Program} {w : World} {K : PySem.W.Frag} {mg : Str → Option Value} {base : Heap}
theorem told_tbn {z : Str} (h : z ∈ names10) : ∃ tb, toldT z = some (tbD tb) ∧ WfT tb ∧ tb.length ≤ 3 ∧ (z ≠ "vote" → z ≠ "most" → tb.length ≤ 1) ∧ (z ≠ "most" → tb.length ≤ 2) := by
  simp only [names10, List.mem_cons, List.not_mem_nil, or_false] at h
  rcases h with rfl | rfl | rfl | rfl | rfl | rfl | rfl | rfl | rfl | rfl
  · exact ⟨oneB "takes_never", by rw [← oneB_D]; rfl, oneB_wf _, by decide, fun _ _ => by decide, fun _ => by decide⟩
  · exact ⟨oneB "takes_always", by rw [← oneB_D]; rfl, oneB_wf _, by decide, fun _ _ => by decide, fun _ => by decide⟩
  · exact ⟨oneB "takes_begins", by rw [← oneB_D]; rfl, oneB_wf _, by decide, fun _ _ => by decide, fun _ => by decide⟩
  · exact ⟨oneB "takes_ends", by rw [← oneB_D]; rfl, oneB_wf _, by decide, fun _ _ => by decide, fun _ => by decide⟩
  · exact ⟨oneB "takes_cover", by rw [← oneB_D]; rfl, oneB_wf _, by decide, fun _ _ => by decide, fun _ => by decide⟩
  · exact ⟨oneB "takes_inner", by rw [← oneB_D]; rfl, oneB_wf _, by decide, fun _ _ => by decide, fun _ => by decide⟩
  · exact ⟨oneB "takes_least", by rw [← oneB_D]; rfl, oneB_wf _, by decide, fun _ _ => by decide, fun _ => by decide⟩
  · exact ⟨oneB "takes_ranked", by rw [← oneB_D]; rfl, oneB_wf _, by decide, fun _ _ => by decide, fun _ => by decide⟩
  · exact ⟨voteB, rfl, voteB_wf, by decide, fun h => absurd rfl h, fun _ => by decide⟩
  · exact ⟨mostB, rfl, mostB_wf, by decide, fun _ h => absurd rfl h, fun h => absurd rfl h⟩
theorem who3 {d : D} (h : d ∈ [D.str "old", D.str "old", D.str "new"]) : ∃ b : Bool, d = .str (if b then "new" else "old") := by
  simp at h
  rcases h with rfl | rfl
  · exact ⟨false, rfl⟩
  · exact ⟨true, rfl⟩
def c_st_table : SE := fun Γ κ _ => ∃ t m, Γ = [.o (some 0) t] ∧ IsTank m t ∧ m < 2 ^ 38 ∧ ∀ tb t', WfT tb → tb.length ≤ 3 → IsTank (m + 400) t' → κ (.leaf (tbD tb)) [.o (some 0) t']

theorem ok__law_table (T : Txt K mg w) : FnG P w K mg base 4 T._law_table.f T._law_table.fd ["_law_stream_here"] (spF K 1 c_st_table) := by
  have nd := sc__law_table.nd
  refine fn_imp (fn_L3 (k := 3) T._law_table.F sc__law_table rfl (by decide) fun cdv A outer s H vs Q E hr gd => (ssj_cons (sj_par (i := 1) (j := 2) rfl nd rfl rfl (by decide) rfl rfl (asj_cons (aj_e (ej_call (ok_told_table T) (hr.mono (by omega)) gd rfl T.told_table.M T.told_table.F.kp T.told_table.B (asj_cons (aj_e (ej_call (ok__law_pick T) (hr.mono (by omega)) gd rfl T._law_pick.M T._law_pick.F.kp T._law_pick.B (asj_cons (aj_v (pv 0)) (asj_cons (aj_e (ej_call0 (ok__law_names T) (hr.mono (by omega)) gd rfl T._law_names.M T._law_names.F.kp T._law_names.B)) asj_nil)))) asj_nil))) (asj_cons (aj_e (ej_call (ok__law_draw T) (hr.mono (by omega)) gd rfl T._law_draw.M T._law_draw.F.kp T._law_draw.B (asj_cons (aj_v (pv 0)) (asj_cons (aj_e ej_int) asj_nil)))) asj_nil)) rfl)
    (ssj_cons (sj_if (tj_cmp (op_eqP (hu64 hr)) k_eq (aj_v (pv 2)) (aj_e ej_int) (nomark _)) (ssj_one (sj_ret (ej_var (pv 1)))) ssj_nil)
    (ssj_cons (sj_if (tj_cmp (op_eqP (hu64 hr)) k_eq (aj_v (pv 2)) (aj_e ej_int) (nomark _)) (ssj_cons (sj_asg (ws := [3]) (ej_op op_addA k_add (aj_e ej_int) (aj_e (ej_call (ok__law_draw T) (hr.mono (by omega)) gd rfl T._law_draw.M T._law_draw.F.kp T._law_draw.B (asj_cons (aj_v (pv 0)) (asj_cons (aj_e ej_int) asj_nil))))) (gj_name (pg_name (i := 3) nd rfl (Or.inr rfl)) (by simp)))
    (ssj_cons (sj_setCompL (i := 4) (own := [("_law_state", 5)]) rfl nd rfl rfl (sw_true rfl rfl rfl (by decide +kernel)) (blkOk_by (N := N__law_table) (sc := defScope st__law_table) (by decide +kernel)) (ij_range1 rfl T.b_range (asj_cons (aj_v (pv 3)) asj_nil)) (fun _ _ _ _ _ => (gj_name (pg_name (i := 5) nd rfl (Or.inl rfl)) (by simp))) (fun _ _ _ _ _ => cj_nil) (fun _ _ _ _ _ => (ej_comp (own := [("_law_k", 6)]) rfl nd (blkOk_in (N := N__law_table) (by decide +kernel)) (ij_range1 rfl T.b_range (asj_cons (aj_e ej_int) asj_nil)) (fun _ _ _ _ _ => (gj_name (pg_name (i := 6) nd rfl (Or.inl rfl)) (by simp))) (fun _ _ _ _ _ => cj_nil) (fun _ _ _ _ _ => (ej_tup (asj_cons (aj_e (ej_call (ok__law_pick T) (hr.mono (by omega)) gd rfl T._law_pick.M T._law_pick.F.kp T._law_pick.B (asj_cons (aj_v (pv 0)) (asj_cons (aj_e (ej_lst (asj_cons (aj_e ej_str) (asj_cons (aj_e ej_str) (asj_cons (aj_e ej_str) asj_nil))))) asj_nil)))) (asj_cons (aj_e (ej_call (ok__law_draw T) (hr.mono (by omega)) gd rfl T._law_draw.M T._law_draw.F.kp T._law_draw.B (asj_cons (aj_v (pv 0)) (asj_cons (aj_v (pv 3)) asj_nil)))) asj_nil)))))))
    (ssj_one (sj_ret (ej_callTy call_tuple_of k_tuple rfl T.b_tuple rfl (asj_cons (aj_e (ej_comp (own := [("_law_row", 7)]) rfl nd (blkOk_by (N := N__law_table) (sc := defScope st__law_table) (by decide +kernel)) (ij_seq (aj_e (ej_var (pv 4)))) (fun _ _ _ _ _ => (gj_name (pg_name (i := 7) nd rfl (Or.inl rfl)) (by simp))) (fun _ _ _ _ _ => cj_nil) (fun _ _ _ _ _ => (ej_callTy call_tuple_of k_tuple rfl T.b_tuple rfl (asj_cons (aj_v (pv 7)) asj_nil))))) asj_nil)))))) ssj_nil)
    (ssj_cons (sj_setCompL (i := 4) (own := [("_law_row", 7)]) rfl nd rfl rfl (sw_true rfl rfl rfl (by decide +kernel)) (blkOk_by (N := N__law_table) (sc := defScope st__law_table) (by decide +kernel)) (ij_seq (aj_v (pv 1))) (fun _ _ _ _ _ => (gj_name (pg_name (i := 7) nd rfl (Or.inl rfl)) (by simp))) (fun _ _ _ _ _ => cj_nil) (fun _ _ _ _ _ => (ej_callTy call_list_of k_list rfl T.b_list rfl (asj_cons (aj_v (pv 7)) asj_nil))))
    (ssj_cons (sj_for (ws := [6]) (passes_of rfl) rfl (ij_range1 rfl T.b_range (asj_cons (aj_e (ej_op op_addA k_add (aj_e ej_int) (aj_e (ej_call (ok__law_draw T) (hr.mono (by omega)) gd rfl T._law_draw.M T._law_draw.F.kp T._law_draw.B (asj_cons (aj_v (pv 0)) (asj_cons (aj_e ej_int) asj_nil)))))) asj_nil)) (gj_name (pg_name (i := 6) nd rfl (Or.inl rfl)) (by simp)) (ssj_cons (sj_par (i := 5) (j := 8) rfl nd rfl rfl (by decide) rfl rfl (asj_cons (aj_e (ej_call (ok__law_draw T) (hr.mono (by omega)) gd rfl T._law_draw.M T._law_draw.F.kp T._law_draw.B (asj_cons (aj_v (pv 0)) (asj_cons (aj_e (ej_lenL (pv 4) rfl T.b_len)) asj_nil)))) (asj_cons (aj_e (ej_call (ok__law_draw T) (hr.mono (by omega)) gd rfl T._law_draw.M T._law_draw.F.kp T._law_draw.B (asj_cons (aj_v (pv 0)) (asj_cons (aj_e ej_int) asj_nil)))) asj_nil)) rfl)
    (ssj_one (sj_setVI (pv 4) (qj_var (pv 5)) (qj_var (pv 8)) (ej_tup (asj_cons (aj_e (ej_call (ok__law_pick T) (hr.mono (by omega)) gd rfl T._law_pick.M T._law_pick.F.kp T._law_pick.B (asj_cons (aj_v (pv 0)) (asj_cons (aj_e (ej_lst (asj_cons (aj_e ej_str) (asj_cons (aj_e ej_str) asj_nil)))) asj_nil)))) (asj_cons (aj_e (ej_call (ok__law_draw T) (hr.mono (by omega)) gd rfl T._law_draw.M T._law_draw.F.kp T._law_draw.B (asj_cons (aj_v (pv 0)) (asj_cons (aj_e (ej_lenL (pv 4) rfl T.b_len)) asj_nil)))) asj_nil)))))))
    (ssj_one (sj_ret (ej_callTy call_tuple_of k_tuple rfl T.b_tuple rfl (asj_cons (aj_e (ej_comp (own := [("_law_row", 7)]) rfl nd (blkOk_by (N := N__law_table) (sc := defScope st__law_table) (by decide +kernel)) (ij_seq (aj_e (ej_var (pv 4)))) (fun _ _ _ _ _ => (gj_name (pg_name (i := 7) nd rfl (Or.inl rfl)) (by simp))) (fun _ _ _ _ _ => cj_nil) (fun _ _ _ _ _ => (ej_callTy call_tuple_of k_tuple rfl T.b_tuple rfl (asj_cons (aj_v (pv 7)) asj_nil))))) asj_nil)))))))))) ?_
  rintro Γ κ Ex ⟨t, m, rfl, tk, hm, h⟩
  have hz := sizeLine_eq
  unfold bodyF
  refine seq_cut (fun Γ' => ∃ tb r1 t1, Γ' = [.o (some 0) t1, .v (tbD tb), .v (.int r1), .un, .un, .un, .un, .un, .un] ∧ WfT tb ∧ tb.length ≤ 3 ∧ IsTank (m + 2) t1 ∧ 0 ≤ r1 ∧ r1 < 4) ?_ ?_
  rotate_left
  · intro Z hZ
    simp
    refine call_1e (tpick (xs := names10.map D.str) rfl (fun κ Ex h => ?_) tk (by omega) (by decide) (by decide) fun d t1 hd tk1 => ?_)
    · exact callV (as := []) (ds := []) (fun κ h => by simp; exact h) trivial rfl fun K E hK hE => ⟨rfl, fun t ht => hK _ (h t ht)⟩
    obtain ⟨z, hz2, rfl⟩ := List.mem_map.mp hd
    obtain ⟨tb, et, wt, lt, _⟩ := told_tbn hz2
    refine callV (as := [.val (.str z)]) (ds := [.str z]) (fun κ h => by simp; exact h) ⟨rfl, trivial⟩ rfl fun K E hK hE => ⟨_, et, hK _ ?_⟩
    refine tdraw rfl (fun κ Ex h => by simp; exact h) tk1 (by omega) (by decide) (by decide) fun r t2 r0 r1 tk2 => ?_
    simp
    exact hZ _ ⟨tb, r, t2, rfl, wt, lt, tk2, r0, r1⟩
  rintro _ ⟨tb, way, t1, rfl, wt, lt, tk1, w0, w1⟩
  refine seq_cut (fun Γ' => Γ' = [.o (some 0) t1, .v (tbD tb), .v (.int way), .un, .un, .un, .un, .un, .un]) ?_ ?_
  rotate_left
  · intro Z hZ
    simp [okEq_int, eqD_int]
    by_cases hw : way = 0
    · exact .inr ⟨hw, h _ _ wt lt (tk1.mono (by omega))⟩
    · exact .inl ⟨hw, hZ _ rfl⟩
  rintro _ rfl
  refine seq_cut (fun Γ' => Γ' = [.o (some 0) t1, .v (tbD tb), .v (.int way), .un, .un, .un, .un, .un, .un]) ?_ ?_
  rotate_left
  · intro Z hZ
    simp [okEq_int, eqD_int]
    by_cases hw : way = 1
    · refine .inr ⟨hw, ?_⟩
      refine tdraw rfl (fun κ Ex h => by simp; exact h) tk1 (by omega) (by decide) (by decide) fun r t2 r0 r1 tk2 => ?_
      simp
      refine ⟨by omega, by omega, by omega, ?_⟩
      generalize hTB : tbD tb = TB
      refine compGoL_all (fun k Γ => ∃ t, Γ = [.o (some 0) t, .v TB, .v (.int way), .v (.int (1 + r)), .un, .un, .un, .un, .un] ∧ IsTank (m + 3 + 54 * k) t) (fun y => ∃ st, y = lnO st ∧ (st.length = 27 ∧ ∀ e ∈ st, IsEn (1 + r) e)) ?_ ⟨t2, rfl, tk2⟩ ?_
      · rintro k e he Γ ⟨t, rfl, tk⟩ Y hY
        have hk : k < 3 := by
          have := (List.getElem?_eq_some_iff.mp he).1
          simp at this
          omega
        simp [hz]
        refine compGo_all (fun k2 Γ => ∃ t, Γ = [.o (some 0) t, .v TB, .v (.int way), .v (.int (1 + r)), .un, .v e, .un, .un, .un] ∧ IsTank (m + 3 + 54 * k + 2 * k2) t) (fun y => ∃ e, y = entD e.1 e.2 ∧ IsEn (1 + r) e) ?_ ⟨t, rfl, tk⟩ ?_
        · rintro k2 e2 he2 Γ ⟨t, rfl, tk⟩ Y2 hY2
          have hk2 : k2 < 27 := by
            have := (List.getElem?_eq_some_iff.mp he2).1
            simpa using this
          simp [hz]
          refine tpick (xs := [.str "old", .str "old", .str "new"]) rfl (fun κ Ex h => by simp [hz]; exact h _ rfl) tk (by omega) (by decide) (by decide) fun d t3 hd tk3 => ?_
          obtain ⟨b, rfl⟩ := who3 hd
          simp
          refine tdrawV (n := 1 + r) rfl rfl tk3 (by omega) (by omega) (by omega) fun r2 t4 a0 a1 tk4 => ?_
          simp
          exact hY2 _ _ ⟨t4, rfl, tk4.mono (by omega)⟩ ⟨(b, r2), rfl, a0, a1⟩
        · rintro ys Γ2 ⟨t3, rfl, tk3⟩ oys hys
          obtain ⟨es, rfl, qs⟩ := exMap oys
          simp at hys tk3
          simp
          exact hY _ _ ⟨t3, rfl, tk3.mono (by omega)⟩ ⟨es, rfl, by simpa using hys, qs⟩
      · rintro ys Γ2 ⟨t3, rfl, tk3⟩ oys hys
        obtain ⟨tb2, rfl, qs⟩ := exMap oys
        simp at hys tk3
        have hl : ((tb2.length : Nat) : Int) = 1 + r := by omega
        have wt2 : WfT tb2 := ⟨by omega, fun st h => (qs st h).1, fun st h e he => by rw [hl]; exact (qs st h).2 e he⟩
        have e1 : fzs (tb2.map lnO) = tb2.map fun st => .lst (st.map fun e => entD e.1 e.2) := by
          simp [fzs_map, lnO, Function.comp_def]
        simp [sVar]
        rw [e1]
        refine ⟨by rw [List.length_map, hz]; omega, compGo_map (fun d => match d with | .lst xs => some (.tup xs) | _ => none) (fun d hd Y N hm => ?_) ?_⟩
        · obtain ⟨st, hst, rfl⟩ := List.mem_map.mp hd
          simpa using hm
        · simp [List.filterMap_map]
          have e2 : (List.filterMap ((fun d => match d with | D.lst xs => some (D.tup xs) | _ => none) ∘ fun st => D.lst (List.map (fun e => entD e.fst e.snd) st)) tb2) = tb2.map fun st => D.tup (st.map fun e => entD e.1 e.2) := by
            simp only [Function.comp_def]
            exact fm_some (f := fun st : List (Bool × Int) => D.tup (st.map fun e => entD e.1 e.2))
          simp only [Function.comp_def] at e2 ⊢
          rw [e2]
          exact h tb2 t3 wt2 (by omega) (tk3.mono (by omega))
    · exact .inl ⟨hw, hZ _ rfl⟩
  rintro _ rfl
  refine seq_cut (fun Γ' => Γ' = [.o (some 0) t1, .v (tbD tb), .v (.int way), .un, .o none (lnsO tb), .un, .un, .un, .un]) ?_ ?_
  rotate_left
  · intro Z hZ
    simp [hz, tbD]
    refine ⟨by omega, compGoL_map (fun d => match d with | .tup xs => .ls xs | _ => .ls []) (fun d hd Y hY => ?_) ?_⟩
    · obtain ⟨st, hst, rfl⟩ := List.mem_map.mp hd
      simpa using hY
    · refine hZ _ ?_
      simp [lnsO, tbD, lnO, Function.comp_def]
  rintro _ rfl
  generalize hTB : tbD tb = TB
  refine seq_cut (fun Γ' => ∃ tb t2 s5 s6 s8, Γ' = [.o (some 0) t2, .v TB, .v (.int way), .un, .o none (lnsO tb), s5, s6, .un, s8] ∧ WfT tb ∧ tb.length ≤ 3 ∧ IsTank (m + 100) t2) ?_ ?_
  rotate_left
  · intro Z hZ
    simp
    refine tdraw rfl (fun κ Ex h => by simp; exact h) tk1 (by omega) (by decide) (by decide) fun r t3 r0 r1 tk3 => ?_
    simp
    refine ⟨by omega, by omega, ?_⟩
    refine forGo_inv (fun i Γ => ∃ tb t s5 s6 s8, Γ = [.o (some 0) t, .v TB, .v (.int way), .un, .o none (lnsO tb), s5, s6, .un, s8] ∧ WfT tb ∧ tb.length ≤ 3 ∧ IsTank (m + 3 + 4 * i) t) ?_ ⟨tb, t3, _, _, _, rfl, wt, lt, tk3⟩ ?_
    · clear hTB wt lt
      rintro i e he Γ ⟨tb, t, s5, s6, s8, rfl, wt, lt, tk⟩ N hN
      have hi := (List.getElem?_eq_some_iff.mp he).1
      simp at hi
      have ne := wt.ne
      simp
      refine tdraw (n := (tb.length : Nat)) rfl (fun κ Ex h => by simp [lnsO]; exact ⟨_, _, ⟨rfl, rfl⟩, by rw [List.length_map]; exact h⟩) tk (by omega) (by omega) (by omega) fun a t4 a0 a1 tk4 => ?_
      simp
      refine tdraw rfl (fun κ Ex h => by simp; exact h) tk4 (by omega) (by decide) (by decide) fun b t5 b0 b1 tk5 => ?_
      simp
      refine tpick (xs := [.str "old", .str "new"]) rfl (fun κ Ex h => by simp [hz]; exact h _ rfl) tk5 (by omega) (by decide) (by decide) fun d t6 hd tk6 => ?_
      obtain ⟨w, rfl⟩ := who_of hd
      simp
      refine tdraw (n := (tb.length : Nat)) rfl (fun κ Ex h => by simp [lnsO]; exact ⟨_, _, ⟨rfl, rfl⟩, by rw [List.length_map]; exact h⟩) tk6 (by omega) (by omega) (by omega) fun c t7 c0 c1 tk7 => ?_
      obtain ⟨x, rfl⟩ : ∃ x : Nat, a = x := ⟨a.toNat, by omega⟩
      obtain ⟨y, rfl⟩ : ∃ y : Nat, b = y := ⟨b.toNat, by omega⟩
      have hx : x < tb.length := by omega
      have hy : y < (tb[x]).length := by rw [wt.len _ (List.getElem_mem hx)]; omega
      simp [hz, lnsO]
      refine ⟨none, _, ⟨rfl, rfl⟩, _, x, rfl, y, rfl, lns_get hx, by rw [List.length_map]; exact hy, ?_⟩
      have es := lns_set (k := y) hx (w, c)
      rw [show D.tup [D.str (if w = true then Str.ofString "new" else Str.ofString "old"), D.int c] = entD w c from by unfold entD; cases w <;> rfl, es]
      exact hN _ ⟨_, t7, _, _, _, rfl, wt.set hx (e := (w, c)) ⟨c0, c1⟩, by rw [List.length_set]; exact lt, tk7.mono (by omega)⟩
    · rintro Γ ⟨tb, t, s5, s6, s8, rfl, wt, lt, tk⟩
      simp at tk
      exact hZ _ ⟨tb, t, _, _, _, rfl, wt, lt, tk.mono (by omega)⟩
  clear hTB wt lt
  rintro _ ⟨tb, t3, s5, s6, s8, rfl, wt, lt, tk3⟩
  have e1 : (lnsO tb).fz = .lst (tb.map fun st => .lst (st.map fun e => entD e.1 e.2)) := by
    simp [lnsO, fzs_map, lnO, Function.comp_def]
  simp [hz, e1, sVar]
  refine ⟨by omega, compGo_map (fun d => match d with | .lst xs => some (.tup xs) | _ => none) (fun d hd Y N hm => ?_) ?_⟩
  · obtain ⟨st, hst, rfl⟩ := List.mem_map.mp hd
    simpa using hm
  · simp [List.filterMap_map]
    have e2 : (List.filterMap ((fun d => match d with | D.lst xs => some (D.tup xs) | _ => none) ∘ fun st => D.lst (List.map (fun e => entD e.fst e.snd) st)) tb) = tb.map fun st => D.tup (st.map fun e => entD e.1 e.2) := by
      simp only [Function.comp_def]
      exact fm_some (f := fun st : List (Bool × Int) => D.tup (st.map fun e => entD e.1 e.2))
    simp only [Function.comp_def] at e2 ⊢
    rw [e2]
    exact h tb t3 wt lt (tk3.mono (by omega))

end
end L3
namespace L3
open PySem PySem.Spec PyProof.Rows L2
section
variable {P : Program} {w : World} {K : PySem.W.Frag} {mg : Str → Option Value} {base : Heap}
def c_st_twin : SE := fun Γ κ _ => ∃ t m tb, Γ = [.o (some 0) t, .v (tbD tb)] ∧ IsTank m t ∧ m < 2 ^ 38 ∧ WfT tb ∧ tb.length ≤ 6 ∧ ∀ tb' t', WfT tb' → tb'.length ≤ 6 → IsTank (m + 400) t' → κ (.leaf (tbD tb')) [.o (some 0) t', .v (tbD tb)]

theorem ok__law_twin (T : Txt K mg w) : FnG P w K mg base 2 T._law_twin.f T._law_twin.fd ["_law_stream_here", "_law_table_here"] (spF K 2 c_st_twin) := by
  have nd := sc__law_twin.nd
  refine fn_imp (fn_L3 (k := 1) T._law_twin.F sc__law_twin rfl (by decide) fun cdv A outer s H vs Q E hr gd => (ssj_cons (sj_asg (ws := [2, 3]) (ej_tup (asj_cons (aj_e (ej_callB call_len k_len rfl T.b_len PySem.boot_len (asj_cons (aj_v (pv 1)) asj_nil))) (asj_cons (aj_e (ej_call (ok__law_draw T) (hr.mono (by omega)) gd rfl T._law_draw.M T._law_draw.F.kp T._law_draw.B (asj_cons (aj_v (pv 0)) (asj_cons (aj_e ej_int) asj_nil)))) asj_nil))) (gj_tup (n := 2) rfl (gsj_cons (gj_name (pg_name (i := 2) nd rfl (Or.inr rfl)) (by simp)) (gsj_cons (gj_name (pg_name (i := 3) nd rfl (Or.inl rfl)) (by simp)) gsj_nil))))
    (ssj_cons (sj_if (WJ.tj (wj_and (tj_cmp (op_eqP (hu64 hr)) k_eq (aj_v (pv 3)) (aj_e ej_int) (nomark _)) (wj_and1 (tj_cmp op_lt k_lt (aj_v (pv 2)) (aj_e ej_int) (nomark _))))) (ssj_cons (sj_setComp (i := 4) (own := [("_law_row", 5)]) rfl nd rfl rfl (sw_true rfl rfl rfl (by decide +kernel)) (blkOk_by (N := N__law_twin) (sc := defScope st__law_twin) (by decide +kernel)) (ij_seq (aj_e (ej_op op_addA k_add (aj_v (pv 1)) (aj_v (pv 1))))) (fun _ _ _ _ _ => (gj_name (pg_name (i := 5) nd rfl (Or.inl rfl)) (by simp))) (fun _ _ _ _ _ => cj_nil) (fun _ _ _ _ _ => (ej_comp (own := [("_law_who", 6), ("_law_later", 7)]) rfl nd (blkOk_in (N := N__law_twin) (by decide +kernel)) (ij_seq (aj_v (pv 5))) (fun _ _ _ _ _ => (gj_tup (n := 2) rfl (gsj_cons (gj_name (pg_name (i := 6) nd rfl (Or.inl rfl)) (by simp)) (gsj_cons (gj_name (pg_name (i := 7) nd rfl (Or.inl rfl)) (by simp)) gsj_nil)))) (fun _ _ _ _ _ => cj_nil) (fun _ _ _ _ _ => (ej_tup (asj_cons (aj_e (ej_var (pv 6))) (asj_cons (aj_e (ej_op op_addA k_add (aj_v (pv 7)) (aj_e (ej_op op_mulA k_mul (aj_v (pv 2)) (aj_e (ej_call (ok__law_draw T) (hr.mono (by omega)) gd rfl T._law_draw.M T._law_draw.F.kp T._law_draw.B (asj_cons (aj_v (pv 0)) (asj_cons (aj_e ej_int) asj_nil)))))))) asj_nil)))))) (.inl rfl))
    (ssj_one (sj_ret (ej_callTy call_tuple_of k_tuple rfl T.b_tuple rfl (asj_cons (aj_e (ej_comp (own := [("_law_row", 5)]) rfl nd (blkOk_by (N := N__law_twin) (sc := defScope st__law_twin) (by decide +kernel)) (ij_seq (aj_v (pv 4))) (fun _ _ _ _ _ => (gj_name (pg_name (i := 5) nd rfl (Or.inl rfl)) (by simp))) (fun _ _ _ _ _ => cj_nil) (fun _ _ _ _ _ => (ej_callTy call_tuple_of k_tuple rfl T.b_tuple rfl (asj_cons (aj_v (pv 5)) asj_nil))))) asj_nil))))) ssj_nil)
    (ssj_cons (sj_if (WJ.tj (wj_and (tj_cmp (op_eqP (hu64 hr)) k_eq (aj_v (pv 3)) (aj_e ej_int) (nomark _)) (wj_and1 (tj_cmp op_lt k_lt (aj_v (pv 2)) (aj_e ej_int) (nomark _))))) (ssj_one (sj_ret (ej_op op_addA k_add (aj_v (pv 1)) (aj_e (ej_tup (asj_cons (aj_e (ej_callTy call_tuple_of k_tuple rfl T.b_tuple rfl (asj_cons (aj_e (ej_comp (own := [("_law_k", 8)]) rfl nd (blkOk_by (N := N__law_twin) (sc := defScope st__law_twin) (by decide +kernel)) (ij_range1 rfl T.b_range (asj_cons (aj_e ej_int) asj_nil)) (fun _ _ _ _ _ => (gj_name (pg_name (i := 8) nd rfl (Or.inl rfl)) (by simp))) (fun _ _ _ _ _ => cj_nil) (fun _ _ _ _ _ => (ej_tup (asj_cons (aj_e ej_str) (asj_cons (aj_e (ej_call (ok__law_draw T) (hr.mono (by omega)) gd rfl T._law_draw.M T._law_draw.F.kp T._law_draw.B (asj_cons (aj_v (pv 0)) (asj_cons (aj_e (ej_op op_addA k_add (aj_v (pv 2)) (aj_e ej_int))) asj_nil)))) asj_nil)))))) asj_nil))) asj_nil)))))) ssj_nil)
    (ssj_cons (sj_asg (ws := [9]) (ej_op op_addA k_add (aj_e (ej_lst (asj_cons (aj_e ej_int) asj_nil))) (aj_e (ej_comp (own := [("_law_k", 8)]) rfl nd (blkOk_by (N := N__law_twin) (sc := defScope st__law_twin) (by decide +kernel)) (ij_range2 rfl T.b_range (asj_cons (aj_e ej_int) (asj_cons (aj_v (pv 2)) asj_nil))) (fun _ _ _ _ _ => (gj_name (pg_name (i := 8) nd rfl (Or.inl rfl)) (by simp))) (fun _ _ _ _ _ => cj_nil) (fun _ _ _ _ _ => (ej_op op_sub k_sub (aj_v (pv 2)) (aj_v (pv 8))))))) (gj_name (pg_name (i := 9) nd rfl (Or.inr rfl)) (by simp)))
    (ssj_one (sj_ret (ej_callTy call_tuple_of k_tuple rfl T.b_tuple rfl (asj_cons (aj_e (ej_comp (own := [("_law_state", 10)]) rfl nd (blkOk_by (N := N__law_twin) (sc := defScope st__law_twin) (by decide +kernel)) (ij_seq (aj_v (pv 9))) (fun _ _ _ _ _ => (gj_name (pg_name (i := 10) nd rfl (Or.inl rfl)) (by simp))) (fun _ _ _ _ _ => cj_nil) (fun _ _ _ _ _ => (ej_callTy call_tuple_of k_tuple rfl T.b_tuple rfl (asj_cons (aj_e (ej_comp (own := [("_law_who", 6), ("_law_later", 7)]) rfl nd (blkOk_in (N := N__law_twin) (by decide +kernel)) (ij_seq (aj_e (ej_ix ix_seq k_ix (aj_v (pv 1)) (aj_v (pv 10)) (fun _ _ => rfl)))) (fun _ _ _ _ _ => (gj_tup (n := 2) rfl (gsj_cons (gj_name (pg_name (i := 6) nd rfl (Or.inl rfl)) (by simp)) (gsj_cons (gj_name (pg_name (i := 7) nd rfl (Or.inl rfl)) (by simp)) gsj_nil)))) (fun _ _ _ _ _ => cj_nil) (fun _ _ _ _ _ => (ej_tup (asj_cons (aj_e (ej_var (pv 6))) (asj_cons (aj_e (ej_index (hu65 hr) (pv 9) (aj_v (pv 7)))) asj_nil)))))) asj_nil))))) asj_nil))))))))) ?_
  rintro Γ κ Ex ⟨t, m, tb, rfl, tk, hm, wt, lt, h⟩
  have hz := sizeLine_eq
  have ne := wt.ne
  have back : ∀ tb' : List (List (Bool × Int)), tbD tb' = .tup (tb'.map fun st => D.tup (st.map fun e => entD e.1 e.2)) := fun _ => rfl
  simp only [back] at h ⊢
  have lRS : (tb.map fun st => D.tup (st.map fun e => entD e.1 e.2)).length = tb.length := List.length_map ..
  have mRS : ∀ d ∈ tb.map (fun st => D.tup (st.map fun e => entD e.1 e.2)), ∃ st : List (Bool × Int), d = .tup (st.map fun e => entD e.1 e.2) ∧ st.length = 27 ∧ ∀ e ∈ st, 0 ≤ e.2 ∧ e.2 < tb.length := fun d hd => by
    obtain ⟨st, hst, rfl⟩ := List.mem_map.mp hd
    exact ⟨st, rfl, wt.len st hst, wt.nx st hst⟩
  have aRS : ∀ s : Nat, s < tb.length → ∃ st : List (Bool × Int), atI (tb.map fun st => D.tup (st.map fun e => entD e.1 e.2)) (s : Int) = some (.tup (st.map fun e => entD e.1 e.2)) ∧ st.length = 27 ∧ ∀ e ∈ st, 0 ≤ e.2 ∧ e.2 < tb.length := fun s hs => by
    refine ⟨tb[s], ?_, wt.len _ (List.getElem_mem hs), wt.nx _ (List.getElem_mem hs)⟩
    rw [atI_lt (by simpa using hs), List.getElem_map]
  unfold bodyF
  generalize hRS : (tb.map fun st => D.tup (st.map fun e => entD e.1 e.2)) = RS at h lRS mRS aRS ⊢
  refine seq_cut (fun Γ' => ∃ t1 r, Γ' = [.o (some 0) t1, .v (.tup RS), .v (.int (tb.length : Nat)), .v (.int r), .un, .un, .un, .un, .un, .un, .un] ∧ IsTank (m + 1) t1 ∧ 0 ≤ r ∧ r < 3) ?_ ?_
  rotate_left
  · intro Z hZ
    simp
    refine tdraw rfl (fun κ Ex h => by simp; exact h) tk (by omega) (by decide) (by decide) fun r t2 r0 r1 tk2 => ?_
    simp
    rw [lRS]
    exact ⟨by rw [hz]; decide, hZ _ ⟨t2, r, rfl, tk2, r0, r1⟩⟩
  rintro _ ⟨t1, r, rfl, tk1, r0, r1⟩
  refine seq_cut (fun Γ' => Γ' = [.o (some 0) t1, .v (.tup RS), .v (.int (tb.length : Nat)), .v (.int r), .un, .un, .un, .un, .un, .un, .un]) ?_ ?_
  rotate_left
  · intro Z hZ
    simp [okEq_int, eqD_int]
    by_cases hr : r = 0
    · refine .inr ⟨hr, ?_⟩
      by_cases h4 : tb.length < 4
      · refine .inr ⟨by omega, by rw [lRS, hz]; omega, ?_⟩
        refine compGo_all (fun k Γ => ∃ t, Γ = [.o (some 0) t, .v (.tup RS), .v (.int (tb.length : Nat)), .v (.int r), .un, .un, .un, .un, .un, .un, .un] ∧ IsTank (m + 1 + 30 * k) t) (fun y => ∃ st : List (Bool × Int), y = .lst (st.map fun e => entD e.1 e.2) ∧ st.length = 27 ∧ ∀ e ∈ st, 0 ≤ e.2 ∧ e.2 < 2 * tb.length) ?_ ⟨t1, rfl, tk1⟩ ?_
        · rintro k d hd Γ ⟨t, rfl, tk⟩ Y hY
          have hk := (List.getElem?_eq_some_iff.mp hd).1
          rw [List.length_append, lRS] at hk
          obtain ⟨st, rfl, s27, sb⟩ := mRS d (by
            have := List.mem_of_getElem? hd
            rw [List.mem_append] at this
            exact this.elim id id)
          simp
          refine ⟨by rw [s27, hz]; decide, ?_⟩
          refine compGo_all (fun k2 Γ => ∃ t, Γ = [.o (some 0) t, .v (.tup RS), .v (.int (tb.length : Nat)), .v (.int r), .un, .v (.tup (st.map fun e => entD e.1 e.2)), .un, .un, .un, .un, .un] ∧ IsTank (m + 1 + 30 * k + k2) t) (fun y => ∃ e : Bool × Int, y = entD e.1 e.2 ∧ 0 ≤ e.2 ∧ e.2 < 2 * tb.length) ?_ ⟨t, rfl, tk⟩ ?_
          · rintro k2 d2 hd2 Γ ⟨t, rfl, tk⟩ Y2 hY2
            have hk2 := (List.getElem?_eq_some_iff.mp hd2).1
            rw [List.length_map, s27] at hk2
            obtain ⟨e, he, rfl⟩ := List.mem_map.mp (List.mem_of_getElem? hd2)
            have eb := sb e he
            obtain ⟨b, x⟩ := e
            simp only at eb
            unfold entD
            simp
            refine tdraw rfl (fun κ Ex h => by simp; exact h) tk (by omega) (by decide) (by decide) fun y t3 y0 y1 tk3 => ?_
            have yy : y = 0 ∨ y = 1 := by omega
            simp [hz]
            refine ⟨cmul_small (by omega) (by omega), hY2 _ _ ⟨t3, rfl, tk3⟩ ⟨(b, x + tb.length * y), rfl, ?_, ?_⟩⟩
            · rcases yy with rfl | rfl <;> simp <;> omega
            · rcases yy with rfl | rfl <;> simp <;> omega
          · rintro ys Γ2 ⟨t3, rfl, tk3⟩ oys hys
            obtain ⟨es, rfl, qs⟩ := exMap oys
            rw [List.length_map, List.length_map, s27] at hys
            rw [List.length_map, s27] at tk3
            simp
            exact hY _ _ ⟨t3, rfl, tk3.mono (by omega)⟩ ⟨es, rfl, hys, qs⟩
        · rintro ys Γ2 ⟨t3, rfl, tk3⟩ oys hys
          obtain ⟨tb2, rfl, qs⟩ := exMap (f := fun st : List (Bool × Int) => D.lst (st.map fun e => entD e.1 e.2)) oys
          rw [List.length_map, List.length_append, lRS] at hys
          rw [List.length_append, lRS] at tk3
          simp
          refine ⟨by rw [hz]; omega, compGo_map (fun d => match d with | .lst xs => some (.tup xs) | _ => none) (fun d hd Y N hm => ?_) ?_⟩
          · obtain ⟨st, hst, rfl⟩ := List.mem_map.mp hd
            simpa using hm
          · have e2 : (List.filterMap (fun d => match d with | D.lst xs => some (D.tup xs) | _ => none) (tb2.map fun st => D.lst (st.map fun e => entD e.1 e.2))) = tb2.map fun st => D.tup (st.map fun e => entD e.1 e.2) := by
              rw [List.filterMap_map]
              exact fm_some (f := fun st : List (Bool × Int) => D.tup (st.map fun e => entD e.1 e.2))
            rw [e2]
            simp
            exact h tb2 t3 ⟨by omega, fun st hs => (qs st hs).1, fun st hs e he => by have := (qs st hs).2 e he; omega⟩ (by omega) (tk3.mono (by omega))
      · exact .inl ⟨by omega, hZ _ rfl⟩
    · exact .inl ⟨hr, hZ _ rfl⟩
  rintro _ rfl
  refine seq_cut (fun Γ' => Γ' = [.o (some 0) t1, .v (.tup RS), .v (.int (tb.length : Nat)), .v (.int r), .un, .un, .un, .un, .un, .un, .un]) ?_ ?_
  rotate_left
  · intro Z hZ
    simp [okEq_int, eqD_int]
    by_cases hr : r = 1
    · refine .inr ⟨hr, ?_⟩
      by_cases h6 : tb.length < 6
      · refine .inr ⟨by omega, by rw [hz]; decide, ?_⟩
        refine compGo_all (fun k Γ => ∃ t, Γ = [.o (some 0) t, .v (.tup RS), .v (.int (tb.length : Nat)), .v (.int r), .un, .un, .un, .un, .un, .un, .un] ∧ IsTank (m + 1 + k) t) (fun y => ∃ e : Bool × Int, y = entD e.1 e.2 ∧ 0 ≤ e.2 ∧ e.2 < (tb.length : Int) + 1) ?_ ⟨t1, rfl, tk1⟩ ?_
        · rintro k d hd Γ ⟨t, rfl, tk⟩ Y hY
          have hk := (List.getElem?_eq_some_iff.mp hd).1
          simp at hk
          simp
          refine tdraw (n := (tb.length : Int) + 1) rfl (fun κ Ex h => by simp; exact h) tk (by omega) (by omega) (by omega) fun x t3 x0 x1 tk3 => ?_
          simp [hz]
          exact hY _ _ ⟨t3, rfl, tk3⟩ ⟨(true, x), rfl, x0, x1⟩
        · rintro ys Γ' ⟨t, rfl, tk⟩ oys hys
          obtain ⟨es, rfl, qs⟩ := exMap oys
          simp at hys tk
          simp [hz]
          refine ⟨by omega, ?_⟩
          have := h (tb ++ [es]) t ⟨by rw [List.length_append]; omega, fun st hs => ?_, fun st hs e he => ?_⟩ (by rw [List.length_append]; simp; omega) (tk.mono (by omega))
          · rw [List.map_append, hRS] at this
            exact this
          · rcases List.mem_append.mp hs with hs | hs
            · exact wt.len st hs
            · rw [List.mem_singleton.mp hs]; omega
          · rw [List.length_append]
            rcases List.mem_append.mp hs with hs | hs
            · have := wt.nx st hs e he
              simp
              omega
            · rw [List.mem_singleton.mp hs] at he
              have := qs e he
              simp
              omega
      · exact .inl ⟨by omega, hZ _ rfl⟩
    · exact .inl ⟨hr, hZ _ rfl⟩
  rintro _ rfl
  simp
  refine ⟨by rw [hz]; decide, by omega, by rw [hz]; omega, ?_⟩
  refine compGo_of (fun k => .int ((tb.length : Int) - (1 + (k : Nat)))) (fun k hk Y hY => ?_) ?_
  · simp
    exact hY
  obtain ⟨od, hod⟩ : ∃ od, od = (List.range tb.length).map fun j : Nat => D.int (if j = 0 then 0 else (tb.length : Int) - j) := ⟨_, rfl⟩
  have eod : D.int 0 :: (List.range (tb.length - 1)).map (fun k : Nat => D.int ((tb.length : Int) - (1 + (k : Nat)))) = od := by
    rw [hod]
    obtain ⟨n, hn⟩ : ∃ n, tb.length = n + 1 := ⟨tb.length - 1, by omega⟩
    rw [hn, List.range_succ_eq_map, List.map_cons, List.map_map]
    congr 1
    refine List.map_congr_left fun k _ => ?_
    simp
    omega
  have lod : od.length = tb.length := by rw [hod, List.length_map, List.length_range]
  have god : ∀ (j : Nat), j < tb.length → od[j]? = some (.int (if j = 0 then 0 else (tb.length : Int) - j)) := fun j hj => by
    rw [hod, List.getElem?_map, List.getElem?_range hj]
    rfl
  have mod : ∀ d ∈ od, ∃ s : Nat, d = .int (s : Nat) ∧ s < tb.length := fun d hd => by
    rw [hod] at hd
    obtain ⟨j, hj, rfl⟩ := List.mem_map.mp hd
    have hj : j < tb.length := by simpa using hj
    by_cases h0 : j = 0
    · exact ⟨0, by rw [if_pos h0]; rfl, by omega⟩
    · refine ⟨tb.length - j, by rw [if_neg h0]; congr 1; omega, by omega⟩
  simp [eod]
  refine ⟨by rw [hz]; omega, by rw [lod, hz]; omega, ?_⟩
  refine compGo_all (fun k Γ => Γ = [.o (some 0) t1, .v (.tup RS), .v (.int (tb.length : Nat)), .v (.int r), .un, .un, .un, .un, .un, .v (.lst od), .un]) (fun y => ∃ st : List (Bool × Int), y = .tup (st.map fun e => entD e.1 e.2) ∧ st.length = 27 ∧ ∀ e ∈ st, 0 ≤ e.2 ∧ e.2 < tb.length) ?_ rfl ?_
  · rintro k d hd Γ rfl Y hY
    obtain ⟨s, rfl, hs⟩ := mod d (List.mem_of_getElem? hd)
    obtain ⟨st, hst, s27, sb⟩ := aRS s hs
    simp
    refine ⟨_, hst, ?_⟩
    simp
    refine ⟨by rw [s27, hz]; decide, ?_⟩
    refine compGo_all (fun k2 Γ => Γ = [.o (some 0) t1, .v (.tup RS), .v (.int (tb.length : Nat)), .v (.int r), .un, .un, .un, .un, .un, .v (.lst od), .v (.int (s : Nat))]) (fun y => ∃ e : Bool × Int, y = entD e.1 e.2 ∧ 0 ≤ e.2 ∧ e.2 < tb.length) ?_ rfl ?_
    · rintro k2 d2 hd2 Γ rfl Y2 hY2
      obtain ⟨e, he, rfl⟩ := List.mem_map.mp (List.mem_of_getElem? hd2)
      have eb := sb e he
      obtain ⟨b, x⟩ := e
      simp only at eb
      obtain ⟨x, rfl⟩ : ∃ n : Nat, x = n := ⟨x.toNat, by omega⟩
      have pn : pns od = true := by
        rw [hod]
        generalize List.range tb.length = l
        induction l with
        | nil => rfl
        | cons a l ih => rw [List.map_cons, pns, ih]; rfl
      have dp : deps od ≤ 0 := deps_le fun y hy => by
        obtain ⟨s', rfl, _⟩ := mod y hy
        simp [D.dep]
      unfold entD
      simp
      refine ⟨pn, rfl, by omega, by simp [D.dep], if x = 0 then 0 else tb.length - x, .int (x : Nat), ?_, by simp [eqD_int], fun m' z' hm' hz' => ?_, ?_⟩
      · split
        · rename_i h0
          rw [god 0 (by omega), h0]
          rfl
        · rename_i h0
          rw [god _ (by omega), if_neg (by omega)]
          congr 2
          omega
      · have hmn : m' < tb.length := by have := (List.getElem?_eq_some_iff.mp hz').1; omega
        rw [god m' hmn] at hz'
        cases hz'
        rw [eqD_int]
        refine decide_eq_false fun e => ?_
        split at hm' <;> split at e <;> omega
      · simp [hz]
        refine hY2 _ _ rfl ⟨(b, ((if x = 0 then 0 else tb.length - x : Nat) : Int)), rfl, by omega, ?_⟩
        show ((if x = 0 then 0 else tb.length - x : Nat) : Int) < _
        split <;> omega
    · rintro ys Γ2 rfl oys hys
      obtain ⟨es, rfl, qs⟩ := exMap oys
      rw [List.length_map, List.length_map, s27] at hys
      simp
      exact hY _ _ rfl ⟨es, rfl, hys, qs⟩
  · rintro ys Γ2 rfl oys hys
    obtain ⟨tb2, rfl, qs⟩ := exMap (f := fun st : List (Bool × Int) => D.tup (st.map fun e => entD e.1 e.2)) oys
    rw [List.length_map, lod] at hys
    simp
    exact h tb2 t1 ⟨by omega, fun st hs => (qs st hs).1, fun st hs e he => by have := (qs st hs).2 e he; omega⟩ (by omega) (tk1.mono (by omega))

end
end L3
namespace L3
open PySem PySem.Spec PyProof.Rows L2
section
variable {P : Program} {w : World} {K : PySem.W.Frag} {mg : Str → Option Value} {base : Heap}
theorem tpickE {fe : SE} {i : Nat} {Γ : List S} {κ : O → List S → Prop} {Ex : Xk} {q : Option Nat} {t : O} (hi : Γ[i]? = some (.o q t))
    (h : ∀ κ1 : O → List S → Prop, (∀ t2 Γ2, sCallN 2 c__law_pick (aCons (aV i) (aCons (aE (sC t2.fz)) aNil)) Γ2 κ Ex → κ1 t2 Γ2) → fe Γ κ1 Ex) : sCallN 2 c__law_pick (aCons (aV i) (aCons (aE fe) aNil)) Γ κ Ex :=
  ⟨⟨_, hi, by simp⟩, h _ fun t2 Γ2 hc => hc.2⟩
def c_st_calm : SE := fun Γ κ _ => ∃ t m, Γ = [.o (some 0) t] ∧ IsTank m t ∧ m < 2 ^ 38 ∧ ∀ tb t', WfT tb → tb.length ≤ 6 → IsTank (m + 500) t' → κ (.leaf (tbD tb)) [.o (some 0) t']

theorem ok__law_calm (T : Txt K mg w) : FnG P w K mg base 3 T._law_calm.f T._law_calm.fd ["_law_stream_here"] (spF K 1 c_st_calm) := by
  have nd := sc__law_calm.nd
  refine fn_imp (fn_L3 (k := 2) T._law_calm.F sc__law_calm rfl (by decide) fun cdv A outer s H vs Q E hr gd => (ssj_cons (sj_tupVO (i := 1) (j := 2) rfl (pg_name (i := 1) nd rfl (Or.inr rfl)) (pg_name (i := 2) nd rfl (Or.inl rfl)) (aj_e (ej_op op_addA k_add (aj_e ej_int) (aj_e (ej_call (ok__law_draw T) (hr.mono (by omega)) gd rfl T._law_draw.M T._law_draw.F.kp T._law_draw.B (asj_cons (aj_v (pv 0)) (asj_cons (aj_e ej_int) asj_nil)))))) (ej_lst asj_nil))
    (ssj_cons (sj_for (ws := [3]) (passes_of rfl) rfl (ij_range1 rfl T.b_range (asj_cons (aj_v (pv 1)) asj_nil)) (gj_name (pg_name (i := 3) nd rfl (Or.inr rfl)) (by simp)) (ssj_cons (sj_setComp (i := 4) (own := [("_law_k", 5)]) rfl nd rfl rfl (sw_true rfl rfl rfl (by decide +kernel)) (blkOk_by (N := N__law_calm) (sc := defScope st__law_calm) (by decide +kernel)) (ij_range1 rfl T.b_range (asj_cons (aj_e ej_int) asj_nil)) (fun _ _ _ _ _ => (gj_name (pg_name (i := 5) nd rfl (Or.inl rfl)) (by simp))) (fun _ _ _ _ _ => cj_nil) (fun _ _ _ _ _ => (ej_tup (asj_cons (aj_e ej_str) (asj_cons (aj_e (ej_call (ok__law_pick T) (hr.mono (by omega)) gd rfl T._law_pick.M T._law_pick.F.kp T._law_pick.B (asj_cons (aj_v (pv 0)) (asj_cons (aj_e (ej_lst (asj_cons (aj_e (ej_var (pv 3))) (asj_cons (aj_e (ej_var (pv 3))) (asj_cons (aj_e (ej_call (ok__law_draw T) (hr.mono (by omega)) gd rfl T._law_draw.M T._law_draw.F.kp T._law_draw.B (asj_cons (aj_v (pv 0)) (asj_cons (aj_v (pv 1)) asj_nil)))) asj_nil))))) asj_nil)))) asj_nil)))) (.inr rfl))
    (ssj_cons (sj_for (ws := [5]) (passes_of rfl) rfl (ij_range1 rfl T.b_range (asj_cons (aj_e (ej_call (ok__law_draw T) (hr.mono (by omega)) gd rfl T._law_draw.M T._law_draw.F.kp T._law_draw.B (asj_cons (aj_v (pv 0)) (asj_cons (aj_e ej_int) asj_nil)))) asj_nil)) (gj_name (pg_name (i := 5) nd rfl (Or.inl rfl)) (by simp)) (ssj_one (sj_setAt (pv 4) (aj_e (ej_call (ok__law_draw T) (hr.mono (by omega)) gd rfl T._law_draw.M T._law_draw.F.kp T._law_draw.B (asj_cons (aj_v (pv 0)) (asj_cons (aj_e ej_int) asj_nil)))) (ej_tup (asj_cons (aj_e ej_str) (asj_cons (aj_e (ej_call (ok__law_draw T) (hr.mono (by omega)) gd rfl T._law_draw.M T._law_draw.F.kp T._law_draw.B (asj_cons (aj_v (pv 0)) (asj_cons (aj_v (pv 1)) asj_nil)))) asj_nil))))))
    (ssj_one (sj_app (pv 2) (aj_e (ej_callTy call_tuple_of k_tuple rfl T.b_tuple rfl (asj_cons (aj_v (pv 4)) asj_nil))))))))
    (ssj_one (sj_ret (ej_callTy call_tuple_of k_tuple rfl T.b_tuple rfl (asj_cons (aj_v (pv 2)) asj_nil))))))) ?_
  rintro Γ κ Ex ⟨t, m, rfl, tk, hm, h⟩
  have hz := sizeLine_eq
  unfold bodyF
  refine seq_cut (fun Γ' => ∃ t1, ∃ n : Nat, Γ' = [.o (some 0) t1, .v (.int (n : Nat)), .o none (.ls []), .un, .un, .un] ∧ IsTank (m + 1) t1 ∧ 1 ≤ n ∧ n ≤ 6) ?_ ?_
  rotate_left
  · intro Z hZ
    simp
    refine tdraw rfl (fun κ Ex h => by simp; exact h) tk (by omega) (by decide) (by decide) fun r t2 r0 r1 tk2 => ?_
    simp
    refine hZ _ ⟨t2, (1 + r).toNat, ?_, tk2, by omega, by omega⟩
    rw [Int.toNat_of_nonneg (by omega)]
  rintro _ ⟨t1, n, rfl, tk1, n1, n6⟩
  simp
  refine ⟨by omega, ?_⟩
  refine forGo_inv (fun i Γ => ∃ t, ∃ tb : List (List (Bool × Int)), ∃ s3 s4 s5, Γ = [.o (some 0) t, .v (.int (n : Nat)), .o none (.ls (tb.map fun st => .tup (st.map fun e => entD e.1 e.2))), s3, s4, s5] ∧ IsTank (m + 1 + 80 * i) t ∧ tb.length = i ∧ ∀ st ∈ tb, st.length = 27 ∧ ∀ e ∈ st, 0 ≤ e.2 ∧ e.2 < n) ?_ ⟨t1, [], _, _, _, rfl, tk1, rfl, fun _ h => nomatch h⟩ ?_
  · rintro i d hd Γ ⟨t, tb, s3, s4, s5, rfl, tk, ltb, htb⟩ N hN
    obtain ⟨hi, rfl⟩ := rgN_get hd
    refine seq_cut (fun Γ' => ∃ t, ∃ st : List (Bool × Int), ∃ s5, Γ' = [.o (some 0) t, .v (.int (n : Nat)), .o none (.ls (tb.map fun st => .tup (st.map fun e => entD e.1 e.2))), .v (.int (i : Nat)), .o none (.ls (st.map fun e => entD e.1 e.2)), s5] ∧ IsTank (m + 1 + 80 * i + 60) t ∧ st.length = 27 ∧ ∀ e ∈ st, 0 ≤ e.2 ∧ e.2 < n) ?_ ?_
    rotate_left
    · intro Z hZ
      simp
      refine ⟨by omega, ?_⟩
      refine compGo_all (fun k Γ => ∃ t, Γ = [.o (some 0) t, .v (.int (n : Nat)), .o none (.ls (tb.map fun st => .tup (st.map fun e => entD e.1 e.2))), .v (.int (i : Nat)), s4, .un] ∧ IsTank (m + 1 + 80 * i + 2 * k) t) (fun y => ∃ e : Bool × Int, y = entD e.1 e.2 ∧ 0 ≤ e.2 ∧ e.2 < n) ?_ ⟨t, rfl, tk⟩ ?_
      · rintro k e he Γ ⟨t, rfl, tk⟩ Y hY
        have hk : k < 27 := by
          have := (List.getElem?_eq_some_iff.mp he).1
          simpa using this
        simp [hz]
        refine tpickE rfl fun κ1 h1 => ?_
        simp [hz]
        refine tdrawV (n := (n : Nat)) rfl rfl tk (by omega) (by omega) (by omega) fun r t3 r0 r1 tk3 => ?_
        simp
        refine h1 _ _ ?_
        refine tpick (xs := [.int (i : Nat), .int (i : Nat), .int r]) rfl (fun κ Ex h => by simp; exact h _ rfl) tk3 (by omega) (by simp) (by simp) fun d t4 hd tk4 => ?_
        obtain ⟨x, rfl, x0, x1⟩ : ∃ x : Int, d = .int x ∧ 0 ≤ x ∧ x < n := by
          simp at hd
          rcases hd with rfl | rfl
          · exact ⟨_, rfl, by omega, by omega⟩
          · exact ⟨_, rfl, r0, r1⟩
        simp
        exact hY _ _ ⟨t4, rfl, tk4.mono (by omega)⟩ ⟨(false, x), rfl, x0, x1⟩
      · rintro ys Γ2 ⟨t3, rfl, tk3⟩ oys hys
        obtain ⟨es, rfl, qs⟩ := exMap oys
        simp at hys tk3
        simp [rstS]
        exact hZ _ ⟨t3, es, _, rfl, tk3.mono (by omega), by simpa using hys, qs⟩
    clear tk t
    rintro _ ⟨t, st, s5, rfl, tk, s27, sb⟩
    refine seq_cut (fun Γ' => ∃ t, ∃ st : List (Bool × Int), ∃ s5, Γ' = [.o (some 0) t, .v (.int (n : Nat)), .o none (.ls (tb.map fun st => .tup (st.map fun e => entD e.1 e.2))), .v (.int (i : Nat)), .o none (.ls (st.map fun e => entD e.1 e.2)), s5] ∧ IsTank (m + 1 + 80 * i + 75) t ∧ st.length = 27 ∧ ∀ e ∈ st, 0 ≤ e.2 ∧ e.2 < n) ?_ ?_
    rotate_left
    · intro Z hZ
      simp
      refine tdraw rfl (fun κ Ex h => by simp; exact h) tk (by omega) (by decide) (by decide) fun r t1 r0 r1 tk1 => ?_
      simp
      refine ⟨by omega, by omega, ?_⟩
      refine forGo_inv (fun j Γ => ∃ t, ∃ st : List (Bool × Int), ∃ s5, Γ = [.o (some 0) t, .v (.int (n : Nat)), .o none (.ls (tb.map fun st => .tup (st.map fun e => entD e.1 e.2))), .v (.int (i : Nat)), .o none (.ls (st.map fun e => entD e.1 e.2)), s5] ∧ IsTank (m + 1 + 80 * i + 61 + 2 * j) t ∧ st.length = 27 ∧ ∀ e ∈ st, 0 ≤ e.2 ∧ e.2 < n) ?_ ⟨t1, st, _, rfl, tk1, s27, sb⟩ ?_
      · clear tk t tk1 t1 s27 sb st s5
        rintro j d hj Γ ⟨t, st, s5, rfl, tk, s27, sb⟩ N hN
        have hj4 : j < 4 := by
          have := (List.getElem?_eq_some_iff.mp hj).1
          simp at this
          omega
        simp [hz]
        refine tdrawV (n := (n : Nat)) rfl rfl tk (by omega) (by omega) (by omega) fun x t3 x0 x1 tk3 => ?_
        simp
        refine tdraw rfl (fun κ Ex h => by simp; exact h) tk3 (by omega) (by decide) (by decide) fun c t4 c0 c1 tk4 => ?_
        simp
        have e1 : (st.map fun e => entD e.1 e.2).set c.toNat (entD true x) = (st.set c.toNat (true, x)).map fun e => entD e.1 e.2 := by rw [List.map_set]
        refine ⟨none, _, ⟨rfl, rfl⟩, c0, by rw [List.length_map, s27]; omega, ?_⟩
        refine hN _ ⟨t4, st.set c.toNat (true, x), .v d, ?_, tk4.mono (by omega), by rw [List.length_set]; exact s27, fun e he => ?_⟩
        · rw [← e1]; rfl
        · rcases List.mem_or_eq_of_mem_set he with q | rfl
          · exact sb _ q
          · exact ⟨x0, x1⟩
      · rintro Γ' ⟨t, st, s5, rfl, tk, s27, sb⟩
        simp at tk
        exact hZ _ ⟨t, st, s5, rfl, tk.mono (by omega), s27, sb⟩
    clear tk t sb s27 st s5
    rintro _ ⟨t, st, s5, rfl, tk, s27, sb⟩
    simp
    refine ⟨none, _, ⟨rfl, rfl⟩, by rw [List.length_map]; omega, ?_⟩
    refine hN _ ⟨t, tb ++ [st], _, _, _, by rw [List.map_append]; rfl, tk.mono (by omega), by simp; omega, fun st' hs => ?_⟩
    rcases List.mem_append.mp hs with q | q
    · exact htb _ q
    · rw [List.mem_singleton.mp q]; exact ⟨s27, sb⟩
  · rintro Γ' ⟨t, tb, s3, s4, s5, rfl, tk, ltb, htb⟩
    simp at tk ltb
    simp
    exact h tb t ⟨by omega, fun st hs => (htb st hs).1, fun st hs e he => by have := (htb st hs).2 e he; omega⟩ (by omega) (tk.mono (by omega))

end
end L3
namespace L3
open PySem PySem.Spec PyProof.Rows L2
section
variable {P : Program} {w : World} {K : PySem.W.Frag} {mg : Str → Option Value} {base : Heap}
def c_st_falling : SE := fun Γ κ _ => ∃ t m, Γ = [.o (some 0) t] ∧ IsTank m t ∧ m < 2 ^ 38 ∧ ∀ tb t', WfT tb → tb.length ≤ 6 → IsTank (m + 700) t' → κ (.leaf (tbD tb)) [.o (some 0) t']

theorem ok__law_falling (T : Txt K mg w) : FnG P w K mg base 3 T._law_falling.f T._law_falling.fd ["_law_stream_here"] (spF K 1 c_st_falling) := by
  have nd := sc__law_falling.nd
  refine fn_imp (fn_L3 (k := 2) T._law_falling.F sc__law_falling rfl (by decide) fun cdv A outer s H vs Q E hr gd => (ssj_cons (sj_parVO (i := 1) (j := 2) rfl nd rfl rfl (by decide) rfl rfl (aj_e (ej_op op_addA k_add (aj_e ej_int) (aj_e (ej_call (ok__law_draw T) (hr.mono (by omega)) gd rfl T._law_draw.M T._law_draw.F.kp T._law_draw.B (asj_cons (aj_v (pv 0)) (asj_cons (aj_e ej_int) asj_nil)))))) (ej_lst asj_nil) rfl)
    (ssj_cons (sj_for (ws := [3]) (passes_of rfl) rfl (ij_range1 rfl T.b_range (asj_cons (aj_v (pv 1)) asj_nil)) (gj_name (pg_name (i := 3) nd rfl (Or.inl rfl)) (by simp)) (ssj_cons (sj_own (i := 4) nd rfl (Or.inl rfl) (ej_lst asj_nil))
    (ssj_cons (sj_for (ws := [5]) (passes_of rfl) rfl (ij_range1 rfl T.b_range (asj_cons (aj_e ej_int) asj_nil)) (gj_name (pg_name (i := 5) nd rfl (Or.inl rfl)) (by simp)) (ssj_cons (sj_asg (ws := [6]) (ej_call (ok__law_pick T) (hr.mono (by omega)) gd rfl T._law_pick.M T._law_pick.F.kp T._law_pick.B (asj_cons (aj_v (pv 0)) (asj_cons (aj_e (ej_lst (asj_cons (aj_e (ej_var (pv 3))) (asj_cons (aj_e (ej_var (pv 3))) (asj_cons (aj_e (ej_op op_addA k_add (aj_v (pv 3)) (aj_e (ej_call (ok__law_draw T) (hr.mono (by omega)) gd rfl T._law_draw.M T._law_draw.F.kp T._law_draw.B (asj_cons (aj_v (pv 0)) (asj_cons (aj_e (ej_op op_sub k_sub (aj_v (pv 1)) (aj_v (pv 3)))) asj_nil)))))) asj_nil))))) asj_nil))) (gj_name (pg_name (i := 6) nd rfl (Or.inl rfl)) (by simp)))
    (ssj_cons (sj_asg (ws := [7]) (ej_and (ej_or (ej_cmp op_gt k_gt (aj_v (pv 6)) (aj_v (pv 3)) (nomark _)) (ej_one (ej_cmp (op_eqP (hu64 hr)) k_eq (aj_e (ej_op op_mod k_mod (aj_v (pv 5)) (aj_e ej_int))) (aj_e ej_int) (nomark _)))) (ej_one (ej_cmp (op_eqP (hu64 hr)) k_eq (aj_e (ej_call (ok__law_draw T) (hr.mono (by omega)) gd rfl T._law_draw.M T._law_draw.F.kp T._law_draw.B (asj_cons (aj_v (pv 0)) (asj_cons (aj_e ej_int) asj_nil)))) (aj_e ej_int) (nomark _)))) (gj_name (pg_name (i := 7) nd rfl (Or.inl rfl)) (by simp)))
    (ssj_one (sj_app (pv 4) (aj_e (ej_tup (asj_cons (aj_e (ej_ix ix_seq k_ix (aj_e (ej_lst (asj_cons (aj_e ej_str) (asj_cons (aj_e ej_str) asj_nil)))) (aj_e (ej_callTy call_int1 k_int1 rfl T.b_int rfl (asj_cons (aj_v (pv 7)) asj_nil))) (fun _ _ => rfl))) (asj_cons (aj_e (ej_var (pv 6))) asj_nil)))))))))
    (ssj_one (sj_app (pv 2) (aj_e (ej_callTy call_tuple_of k_tuple rfl T.b_tuple rfl (asj_cons (aj_v (pv 4)) asj_nil))))))))
    (ssj_one (sj_ret (ej_callTy call_tuple_of k_tuple rfl T.b_tuple rfl (asj_cons (aj_v (pv 2)) asj_nil))))))) ?_
  rintro Γ κ Ex ⟨t, m, rfl, tk, hm, h⟩
  have hz := sizeLine_eq
  unfold bodyF
  refine seq_cut (fun Γ' => ∃ t1, ∃ n : Nat, Γ' = [.o (some 0) t1, .v (.int (n : Nat)), .o none (.ls []), .un, .un, .un, .un, .un] ∧ IsTank (m + 1) t1 ∧ 1 ≤ n ∧ n ≤ 6) ?_ ?_
  rotate_left
  · intro Z hZ
    simp
    refine tdraw rfl (fun κ Ex h => by simp; exact h) tk (by omega) (by decide) (by decide) fun r t2 r0 r1 tk2 => ?_
    simp
    refine hZ _ ⟨t2, (2 + r).toNat, ?_, tk2, by omega, by omega⟩
    rw [Int.toNat_of_nonneg (by omega)]
  rintro _ ⟨t1, n, rfl, tk1, n1, n6⟩
  simp
  refine ⟨by omega, ?_⟩
  refine forGo_inv (fun i Γ => ∃ t, ∃ tb : List (List (Bool × Int)), ∃ s3 s4 s5 s6 s7, Γ = [.o (some 0) t, .v (.int (n : Nat)), .o none (.ls (tb.map fun st => .tup (st.map fun e => entD e.1 e.2))), s3, s4, s5, s6, s7] ∧ IsTank (m + 1 + 100 * i) t ∧ tb.length = i ∧ ∀ st ∈ tb, st.length = 27 ∧ ∀ e ∈ st, 0 ≤ e.2 ∧ e.2 < n) ?_ ⟨t1, [], _, _, _, _, _, rfl, tk1, rfl, fun _ h => nomatch h⟩ ?_
  · rintro i d hd Γ ⟨t, tb, s3, s4, s5, s6, s7, rfl, tk, ltb, htb⟩ N hN
    obtain ⟨hi, rfl⟩ := rgN_get hd
    refine seq_cut (fun Γ' => Γ' = [.o (some 0) t, .v (.int (n : Nat)), .o none (.ls (tb.map fun st => .tup (st.map fun e => entD e.1 e.2))), .v (.int (i : Nat)), .o none (.ls []), s5, s6, s7]) ?_ ?_
    rotate_left
    · intro Z hZ
      simp
      exact hZ _ rfl
    rintro _ rfl
    refine seq_cut (fun Γ' => ∃ t, ∃ st : List (Bool × Int), ∃ s5 s6 s7, Γ' = [.o (some 0) t, .v (.int (n : Nat)), .o none (.ls (tb.map fun st => .tup (st.map fun e => entD e.1 e.2))), .v (.int (i : Nat)), .o none (.ls (st.map fun e => entD e.1 e.2)), s5, s6, s7] ∧ IsTank (m + 1 + 100 * i + 90) t ∧ st.length = 27 ∧ ∀ e ∈ st, 0 ≤ e.2 ∧ e.2 < n) ?_ ?_
    rotate_left
    · intro Z hZ
      simp
      refine forGo_inv (fun j Γ => ∃ t, ∃ st : List (Bool × Int), ∃ s5 s6 s7, Γ = [.o (some 0) t, .v (.int (n : Nat)), .o none (.ls (tb.map fun st => .tup (st.map fun e => entD e.1 e.2))), .v (.int (i : Nat)), .o none (.ls (st.map fun e => entD e.1 e.2)), s5, s6, s7] ∧ IsTank (m + 1 + 100 * i + 3 * j) t ∧ st.length = j ∧ ∀ e ∈ st, 0 ≤ e.2 ∧ e.2 < n) ?_ ⟨t, [], _, _, _, rfl, tk, rfl, fun _ h => nomatch h⟩ ?_
      · clear tk t
        rintro j d hj Γ ⟨t, st, s5, s6, s7, rfl, tk, sl, sb⟩ N hN
        obtain ⟨hj27, rfl⟩ : j < 27 ∧ d = .int (j : Nat) := by
          have h1 := (List.getElem?_eq_some_iff.mp hj).1
          have h2 := (List.getElem?_eq_some_iff.mp hj).2
          simp at h1 h2
          exact ⟨h1, h2.symm⟩
        refine seq_cut (fun Γ' => ∃ t, ∃ x : Int, Γ' = [.o (some 0) t, .v (.int (n : Nat)), .o none (.ls (tb.map fun st => .tup (st.map fun e => entD e.1 e.2))), .v (.int (i : Nat)), .o none (.ls (st.map fun e => entD e.1 e.2)), .v (.int (j : Nat)), .v (.int x), s7] ∧ IsTank (m + 1 + 100 * i + 3 * j + 2) t ∧ 0 ≤ x ∧ x < n) ?_ ?_
        rotate_left
        · intro Z hZ
          simp
          refine tpickE rfl fun κ1 h1 => ?_
          simp [hz]
          refine tdraw (n := (n : Nat) - (i : Nat)) rfl (fun κ Ex h => by simp; exact h) tk (by omega) (by omega) (by omega) fun r t3 r0 r1 tk3 => ?_
          simp
          refine h1 _ _ ?_
          refine tpick (xs := [.int (i : Nat), .int (i : Nat), .int ((i : Nat) + r)]) rfl (fun κ Ex h => by simp; exact h _ rfl) tk3 (by omega) (by simp) (by simp) fun d t4 hd tk4 => ?_
          obtain ⟨x, rfl, x0, x1⟩ : ∃ x : Int, d = .int x ∧ 0 ≤ x ∧ x < n := by
            simp at hd
            rcases hd with rfl | rfl
            · exact ⟨_, rfl, by omega, by omega⟩
            · exact ⟨_, rfl, by omega, by omega⟩
          simp
          exact hZ _ ⟨t4, x, rfl, tk4.mono (by omega), x0, x1⟩
        clear tk t
        rintro _ ⟨t, x, rfl, tk, x0, x1⟩
        refine seq_cut (fun Γ' => ∃ t, ∃ b : Bool, Γ' = [.o (some 0) t, .v (.int (n : Nat)), .o none (.ls (tb.map fun st => .tup (st.map fun e => entD e.1 e.2))), .v (.int (i : Nat)), .o none (.ls (st.map fun e => entD e.1 e.2)), .v (.int (j : Nat)), .v (.int x), .v (.bl b)] ∧ IsTank (m + 1 + 100 * i + 3 * j + 3) t) ?_ ?_
        rotate_left
        · intro Z hZ
          simp [okEq_int, eqD_int]
          have dr : ∀ (E : Xk), sCallN 2 c_tank_draw (aCons (aV 0) (aCons (aE (sC (D.int 2))) aNil)) [.o (some 0) t, .v (.int (n : Nat)), .o none (.ls (tb.map fun st => .tup (st.map fun e => entD e.1 e.2))), .v (.int (i : Nat)), .o none (.ls (st.map fun e => entD e.1 e.2)), .v (.int (j : Nat)), .v (.int x), s7] (fun t Γ' => okEq t.fz (D.int 0) ∧ Z (Γ'.set 7 (S.v (D.bl (eqD t.fz (D.int 0)))))) E := fun E => by
            refine tdraw rfl (fun κ Ex h => by simp; exact h) tk (by omega) (by decide) (by decide) fun r t3 r0 r1 tk3 => ?_
            simp [okEq_int]
            exact hZ _ ⟨t3, _, rfl, tk3.mono (by omega)⟩
          by_cases hx : x ≤ (i : Nat)
          · refine .inl ⟨hx, ?_⟩
            by_cases hm3 : (j : Int) % 3 = 1
            · exact .inr ⟨hm3, dr _⟩
            · exact .inl ⟨hm3, hZ _ ⟨t, false, rfl, tk.mono (by omega)⟩⟩
          · exact .inr ⟨by omega, dr _⟩
        clear tk t
        rintro _ ⟨t, b, rfl, tk⟩
        have key : N [.o (some 0) t, .v (.int (n : Nat)), .o none (.ls (tb.map fun st => .tup (st.map fun e => entD e.1 e.2))), .v (.int (i : Nat)), .o none (.ls ((st ++ [(b, x)]).map fun e => entD e.1 e.2)), .v (.int (j : Nat)), .v (.int x), .v (.bl b)] :=
          hN _ ⟨t, st ++ [(b, x)], _, _, _, rfl, tk.mono (by omega), by simp; omega, fun e he => by
            rcases List.mem_append.mp he with q | q
            · exact sb _ q
            · rw [List.mem_singleton.mp q]; exact ⟨x0, x1⟩⟩
        rw [List.map_append] at key
        simp [kInt1]
        refine ⟨by omega, ?_⟩
        cases b
        · refine ⟨_, rfl, by omega, none, _, ⟨rfl, rfl⟩, by rw [List.length_map]; omega, key⟩
        · refine ⟨_, rfl, by omega, none, _, ⟨rfl, rfl⟩, by rw [List.length_map]; omega, key⟩
      · rintro Γ' ⟨t, st, s5, s6, s7, rfl, tk, sl, sb⟩
        simp at tk sl
        exact hZ _ ⟨t, st, s5, s6, s7, rfl, tk.mono (by omega), sl, sb⟩
    clear tk t
    rintro _ ⟨t, st, s5, s6, s7, rfl, tk, s27, sb⟩
    simp
    refine ⟨none, _, ⟨rfl, rfl⟩, by rw [List.length_map]; omega, ?_⟩
    refine hN _ ⟨t, tb ++ [st], _, _, _, _, _, by rw [List.map_append]; rfl, tk.mono (by omega), by simp; omega, fun st' hs => ?_⟩
    rcases List.mem_append.mp hs with q | q
    · exact htb _ q
    · rw [List.mem_singleton.mp q]; exact ⟨s27, sb⟩
  · rintro Γ' ⟨t, tb, s3, s4, s5, s6, s7, rfl, tk, ltb, htb⟩
    simp at tk ltb
    simp
    exact h tb t ⟨by omega, fun st hs => (htb st hs).1, fun st hs e he => by have := (htb st hs).2 e he; omega⟩ (by omega) (tk.mono (by omega))

end
end L3
namespace L3
open PySem PySem.Spec PyProof.Rows L2
section
variable {P : Program} {w : World} {K : PySem.W.Frag} {mg : Str → Option Value} {base : Heap}
def c_st_some : SE := fun Γ κ _ => ∃ t m, Γ = [.o (some 0) t] ∧ IsTank m t ∧ m < 2 ^ 37 ∧ ∀ tb t', WfT tb → tb.length ≤ 6 → IsTank (m + 3000) t' → κ (.leaf (tbD tb)) [.o (some 0) t']

theorem ok__law_some (T : Txt K mg w) : FnG P w K mg base 5 T._law_some.f T._law_some.fd ["_law_stream_here"] (spF K 1 c_st_some) := by
  have nd := sc__law_some.nd
  refine fn_imp (fn_L3 (k := 4) T._law_some.F sc__law_some rfl (by decide) fun cdv A outer s H vs Q E hr gd => (ssj_cons (sj_asg (ws := [1]) (ej_call (ok__law_draw T) (hr.mono (by omega)) gd rfl T._law_draw.M T._law_draw.F.kp T._law_draw.B (asj_cons (aj_v (pv 0)) (asj_cons (aj_e ej_int) asj_nil))) (gj_name (pg_name (i := 1) nd rfl (Or.inl rfl)) (by simp)))
    (ssj_cons (sj_asg (ws := [2]) (ej_ix ix_seq k_ix (aj_e (ej_lst (asj_cons (aj_e (ej_call (ok__law_table T) (hr.mono (by omega)) gd rfl T._law_table.M T._law_table.F.kp T._law_table.B (asj_cons (aj_v (pv 0)) asj_nil))) (asj_cons (aj_e (ej_call (ok__law_calm T) (hr.mono (by omega)) gd rfl T._law_calm.M T._law_calm.F.kp T._law_calm.B (asj_cons (aj_v (pv 0)) asj_nil))) (asj_cons (aj_e (ej_call (ok__law_falling T) (hr.mono (by omega)) gd rfl T._law_falling.M T._law_falling.F.kp T._law_falling.B (asj_cons (aj_v (pv 0)) asj_nil))) (asj_cons (aj_e (ej_call (ok__law_calm T) (hr.mono (by omega)) gd rfl T._law_calm.M T._law_calm.F.kp T._law_calm.B (asj_cons (aj_v (pv 0)) asj_nil))) asj_nil)))))) (aj_v (pv 1)) (fun _ _ => rfl)) (gj_name (pg_name (i := 2) nd rfl (Or.inl rfl)) (by simp)))
    (ssj_one (sj_ret (ej_if (tj_cmp (op_eqP (hu64 hr)) k_eq (aj_e (ej_call (ok__law_draw T) (hr.mono (by omega)) gd rfl T._law_draw.M T._law_draw.F.kp T._law_draw.B (asj_cons (aj_v (pv 0)) (asj_cons (aj_e ej_int) asj_nil)))) (aj_e ej_int) (nomark _)) (ej_call (ok__law_twin T) (hr.mono (by omega)) gd rfl T._law_twin.M T._law_twin.F.kp T._law_twin.B (asj_cons (aj_v (pv 0)) (asj_cons (aj_v (pv 2)) asj_nil))) (ej_var (pv 2)))))))) ?_
  rintro Γ κ Ex ⟨t, m, rfl, tk, hm, h⟩
  have hz := sizeLine_eq
  unfold bodyF
  refine seq_cut (fun Γ' => ∃ t1, ∃ w : Int, Γ' = [.o (some 0) t1, .v (.int w), .un] ∧ IsTank (m + 1) t1 ∧ 0 ≤ w ∧ w < 4) ?_ ?_
  rotate_left
  · intro Z hZ
    simp
    refine tdraw rfl (fun κ Ex h => by simp; exact h) tk (by omega) (by decide) (by decide) fun r t2 r0 r1 tk2 => ?_
    simp
    exact hZ _ ⟨t2, r, rfl, tk2, r0, r1⟩
  rintro _ ⟨t1, w, rfl, tk1, w0, w1⟩
  refine seq_cut (fun Γ' => ∃ t1 tb, Γ' = [.o (some 0) t1, .v (.int w), .v (tbD tb)] ∧ IsTank (m + 2201) t1 ∧ WfT tb ∧ tb.length ≤ 6) ?_ ?_
  rotate_left
  · intro Z hZ
    simp
    refine callD (as := []) (ds := []) rfl (fun κ h => ⟨⟨_, rfl, by simp⟩, h⟩) trivial rfl fun K E hK hE => ⟨_, _, rfl, tk1, by omega, fun ta t2 wa la tk2 => hK _ _ ?_⟩
    simp
    refine callD (as := []) (ds := []) rfl (fun κ h => ⟨⟨_, rfl, by simp⟩, h⟩) trivial rfl fun K E hK hE => ⟨_, _, rfl, tk2, by omega, fun tb t3 wb lb tk3 => hK _ _ ?_⟩
    simp
    refine callD (as := []) (ds := []) rfl (fun κ h => ⟨⟨_, rfl, by simp⟩, h⟩) trivial rfl fun K E hK hE => ⟨_, _, rfl, tk3, by omega, fun tc t4 wc lc tk4 => hK _ _ ?_⟩
    simp
    refine callD (as := []) (ds := []) rfl (fun κ h => ⟨⟨_, rfl, by simp⟩, h⟩) trivial rfl fun K E hK hE => ⟨_, _, rfl, tk4, by omega, fun td t5 wd ld tk5 => hK _ _ ?_⟩
    simp
    refine ⟨by omega, ?_⟩
    obtain rfl | rfl | rfl | rfl : w = 0 ∨ w = 1 ∨ w = 2 ∨ w = 3 := by omega
    · exact ⟨_, rfl, hZ _ ⟨t5, ta, rfl, tk5.mono (by omega), wa, by omega⟩⟩
    · exact ⟨_, rfl, hZ _ ⟨t5, tb, rfl, tk5.mono (by omega), wb, lb⟩⟩
    · exact ⟨_, rfl, hZ _ ⟨t5, tc, rfl, tk5.mono (by omega), wc, lc⟩⟩
    · exact ⟨_, rfl, hZ _ ⟨t5, td, rfl, tk5.mono (by omega), wd, ld⟩⟩
  clear tk1 t1
  rintro _ ⟨t1, tb, rfl, tk1, wt, lt⟩
  simp
  refine tdraw rfl (fun κ Ex h => by simp; exact h) tk1 (by omega) (by decide) (by decide) fun r t2 r0 r1 tk2 => ?_
  simp [okEq_int, eqD_int]
  by_cases hr : r = 0
  · refine .inr ⟨hr, ?_⟩
    refine callD (as := [.slot 2]) (ds := [tbD tb]) rfl (fun κ h => ⟨⟨_, rfl, by simp⟩, ⟨_, rfl, by simp⟩, h⟩) ⟨rfl, trivial⟩ rfl fun K E hK hE => ⟨_, _, tb, rfl, tk2, by omega, wt, lt, fun tb' t3 w3 l3 tk3 => hK _ _ ?_⟩
    exact ⟨rfl, h _ _ w3 l3 (tk3.mono (by omega))⟩
  · refine .inl ⟨hr, ?_⟩
    exact h _ _ wt lt (tk2.mono (by omega))

end
end L3
namespace L3
open PySem PySem.Spec PyProof.Rows L2
section
variable {P : Program} {w : World} {K : PySem.W.Frag} {mg : Str → Option Value} {base : Heap}
def c_59_is_change : SE := fun Γ κ _ => ∃ (b : Bool) (n : Int) (i : Nat), Γ = [.v (.int (i : Nat)), .v (entD b n)] ∧ κ (.leaf (.bl (chB b i))) Γ

theorem ok__law_is_change (T : Txt K mg w) : FnG P w K mg base 1 T._law_is_change.f T._law_is_change.fd ["_law_number", "_law_entry"] (spF K 2 c_59_is_change) := by
  have nd := sc__law_is_change.nd
  refine fn_imp (fn_L3 (k := 0) T._law_is_change.F sc__law_is_change rfl (by decide) fun cdv A outer s H vs Q E hr gd => (ssj_one (sj_ret (ej_and (ej_cmp (op_eqP (hu64 hr)) k_eq (aj_e (ej_ix ix_seq k_ix (aj_v (pv 1)) (aj_e ej_int) (fun _ _ => rfl))) (aj_e ej_str) (nomark _)) (ej_one (ej_cmp (op_neP (hu64 hr)) k_ne (aj_e (ej_op op_mod k_mod (aj_v (pv 0)) (aj_e ej_int))) (aj_e ej_int) (nomark _))))))) ?_
  rintro Γ κ Ex ⟨b, n, i, rfl, h⟩
  unfold chB at h
  have e1 : ¬ Str.ofString "old" = Str.ofString "new" := by decide
  cases b <;> simp [entD, okEq_str, okEq_int, eqD_int, eqD_strs, e1] at h ⊢
  · exact h
  · have e2 : decide ((i : Int) % 3 = 1) = decide (i % 3 = 1) := decide_eq_decide.mpr m31
    rw [e2]
    exact h

end
end L3
namespace L3
open PySem PySem.Spec PyProof.Rows L2
section
variable {P : Program} {w : World} {K : PySem.W.Frag} {mg : Str → Option Value} {base : Heap}
def foR (fs : List (List Key)) (t s : Nat) : D := match fstR fs t s with | some v => .int (v : Nat) | none => .non
def c_59_far : SE := fun Γ κ _ => ∃ tb : List (List (Bool × Int)), Γ = [.v (tbD tb)] ∧ WfT tb ∧ tb.length ≤ 6 ∧ κ (.leaf (.tup ((List.range tb.length).map (dsD tb)))) Γ
theorem foL_getD {tb : List (List (Bool × Int))} {i : Nat} (hi : i < tb.length) : (fsT tb).getD i [] = foL tb[i] := by
  unfold fsT; rw [List.getD_eq_getElem?_getD, List.getElem?_map, List.getElem?_eq_getElem hi]; rfl
theorem rcS_near {fs : List (List Key)} {st : List (Bool × Int)} {i j : Nat} (hs : fs.getD i [] = foL st) (hn : true ∈ st.mapIdx fun k e => chB e.1 k) : rc fs (j + 1) i = true := by
  obtain ⟨k, hk, e⟩ := List.mem_mapIdx.mp hn
  unfold rc
  rw [hs, List.any_eq_true]
  refine ⟨foK st[k] k, List.mem_mapIdx.mpr ⟨k, hk, rfl⟩, ?_⟩
  unfold foK
  rw [if_pos e]
theorem rcS_far {fs : List (List Key)} {st : List (Bool × Int)} {i j : Nat} (hs : fs.getD i [] = foL st) (hn : ¬ true ∈ st.mapIdx fun k e => chB e.1 k) : rc fs (j + 1) i = true ↔ ∃ e ∈ st, rc fs j e.2.toNat = true := by
  have hf : ∀ k (h : k < st.length), foK st[k] k = .inl st[k].2 := fun k h => by
    unfold foK
    refine if_neg fun e => hn (List.mem_mapIdx.mpr ⟨k, h, e⟩)
  rw [rc, hs, List.any_eq_true]
  constructor
  · rintro ⟨key, hkey, h⟩
    obtain ⟨k, hk, rfl⟩ := List.mem_mapIdx.mp hkey
    rw [hf k hk] at h
    exact ⟨_, List.getElem_mem hk, h⟩
  · rintro ⟨e, he, h⟩
    obtain ⟨k, hk, rfl⟩ := List.mem_iff_getElem.mp he
    exact ⟨_, List.mem_mapIdx.mpr ⟨k, hk, rfl⟩, by rw [hf k hk]; exact h⟩
def mores (fs : List (List Key)) (t : Nat) (st : List (Bool × Int)) : List Int := st.filterMap fun e => (fstR fs t e.2.toNat).map fun v => ((v : Nat) : Int) + 1
theorem foR_near {fs : List (List Key)} {st : List (Bool × Int)} {i t : Nat} (hs : fs.getD i [] = foL st) (hn : true ∈ st.mapIdx fun k e => chB e.1 k) : foR fs (t + 1) i = .int 1 := by
  have : fstR fs (t + 1) i = some 1 := fstR_some.mpr ⟨by omega, rcS_near hs hn, fun j hj => by
    have : j = 0 := by omega
    subst this
    rfl⟩
  unfold foR
  rw [this]
  rfl
theorem foR_none {fs : List (List Key)} {st : List (Bool × Int)} {i t : Nat} (hs : fs.getD i [] = foL st) (hn : ¬ true ∈ st.mapIdx fun k e => chB e.1 k) (hm : mores fs t st = []) : foR fs (t + 1) i = .non := by
  have : fstR fs (t + 1) i = none := fstR_none.mpr fun j hj => by
    cases j with
    | zero => rfl
    | succ j =>
      cases e : rc fs (j + 1) i with
      | false => rfl
      | true =>
        obtain ⟨x, hx, h⟩ := (rcS_far hs hn).mp e
        obtain ⟨v, _, hv⟩ := fstR_of (rc_le (u := t) (by omega) h)
        have : ((v : Nat) : Int) + 1 ∈ mores fs t st := List.mem_filterMap.mpr ⟨x, hx, by rw [hv]; rfl⟩
        rw [hm] at this
        cases this
  unfold foR
  rw [this]
theorem foR_more {fs : List (List Key)} {st : List (Bool × Int)} {i t : Nat} (ht : t ≤ 90) (hs : fs.getD i [] = foL st) (hn : ¬ true ∈ st.mapIdx fun k e => chB e.1 k) (hm : mores fs t st ≠ []) : foR fs (t + 1) i = .int (mnI (mores fs t st ++ [99])) := by
  have hmm := mnI_mem (ns := mores fs t st ++ [99]) (by simp)
  have hle := fun n h => mnI_le (ns := mores fs t st ++ [99]) n h
  generalize mnI (mores fs t st ++ [99]) = m at hmm hle
  have inM : ∀ x ∈ mores fs t st, ∃ e ∈ st, ∃ v, fstR fs t e.2.toNat = some v ∧ x = ((v : Nat) : Int) + 1 := fun x hx => by
    obtain ⟨e, he, h⟩ := List.mem_filterMap.mp hx
    cases hv : fstR fs t e.2.toNat with
    | none => rw [hv] at h; cases h
    | some v =>
      rw [hv] at h
      exact ⟨e, he, v, hv, (Option.some.inj h).symm⟩
  have hmx : m ∈ mores fs t st := by
    rcases List.mem_append.mp hmm with h | h
    · exact h
    · have h99 : m = 99 := List.mem_singleton.mp h
      cases hl : mores fs t st with
      | nil => exact absurd hl hm
      | cons x xs =>
        have hx : x ∈ mores fs t st := by rw [hl]; exact List.mem_cons_self
        obtain ⟨e, he, v, hv, rfl⟩ := inM x hx
        have h1 := hle _ (List.mem_append_left _ hx)
        have h2 := (fstR_some.mp hv).1
        omega
  obtain ⟨e, he, v, hv, rfl⟩ := inM m hmx
  obtain ⟨v1, v2, v3⟩ := fstR_some.mp hv
  have : fstR fs (t + 1) i = some (v + 1) := fstR_some.mpr ⟨by omega, (rcS_far hs hn).mpr ⟨e, he, v2⟩, fun j hj => by
    cases j with
    | zero => rfl
    | succ j =>
      cases e2 : rc fs (j + 1) i with
      | false => rfl
      | true =>
        obtain ⟨x, hx, h⟩ := (rcS_far hs hn).mp e2
        obtain ⟨w, _, hw⟩ := fstR_of (rc_le (u := t) (by omega) h)
        have h1 := hle (((w : Nat) : Int) + 1) (List.mem_append_left _ (List.mem_filterMap.mpr ⟨x, hx, by rw [hw]; rfl⟩))
        have h2 := (fstR_some.mp hw).2.2 j
        by_cases hjw : j < w
        · rw [h2 hjw] at h
          cases h
        · omega⟩
  unfold foR
  rw [this]
  simp
theorem foR_0 {fs : List (List Key)} {s : Nat} : foR fs 0 s = .non := by
  have : fstR fs 0 s = none := fstR_none.mpr fun j hj => by rw [Nat.le_zero.mp hj]; rfl
  unfold foR
  rw [this]

theorem ok__law_far (T : Txt K mg w) : FnG P w K mg base 2 T._law_far.f T._law_far.fd ["_law_table_here"] (spF K 1 c_59_far) := by
  have nd := sc__law_far.nd
  refine fn_imp (fn_L3 (k := 1) T._law_far.F sc__law_far rfl (by decide) fun cdv A outer s H vs Q E hr gd => (ssj_cons (sj_asg (ws := [1]) (ej_op op_mulA k_mul (aj_e (ej_lst (asj_cons (aj_e ej_non) asj_nil))) (aj_e (ej_callB call_len k_len rfl T.b_len PySem.boot_len (asj_cons (aj_v (pv 0)) asj_nil)))) (gj_name (pg_name (i := 1) nd rfl (Or.inr rfl)) (by simp)))
    (ssj_cons (sj_for (ws := [2]) (passes_of rfl) rfl (ij_range1 rfl T.b_range (asj_cons (aj_e (ej_op op_addA k_add (aj_e (ej_callB call_len k_len rfl T.b_len PySem.boot_len (asj_cons (aj_v (pv 0)) asj_nil))) (aj_e ej_int))) asj_nil)) (gj_name (pg_name (i := 2) nd rfl (Or.inl rfl)) (by simp)) (ssj_cons (sj_own (i := 3) nd rfl (Or.inl rfl) (ej_lst asj_nil))
    (ssj_cons (sj_for (ws := [4]) (passes_of rfl) rfl (ij_seq (aj_v (pv 0))) (gj_name (pg_name (i := 4) nd rfl (Or.inl rfl)) (by simp)) (ssj_cons (sj_setComp (i := 5) (own := [("_law_who", 6), ("_law_later", 7)]) rfl nd rfl rfl (sw_true rfl rfl rfl (by decide +kernel)) (blkOk_by (N := N__law_far) (sc := defScope st__law_far) (by decide +kernel)) (ij_seq (aj_v (pv 4))) (fun _ _ _ _ _ => (gj_tup (n := 2) rfl (gsj_cons (gj_name (pg_name (i := 6) nd rfl (Or.inl rfl)) (by simp)) (gsj_cons (gj_name (pg_name (i := 7) nd rfl (Or.inl rfl)) (by simp)) gsj_nil)))) (fun _ _ _ _ _ => (cj_one (tj_cmp op_notN k_notN (aj_e (ej_ix ix_seq k_ix (aj_v (pv 1)) (aj_v (pv 7)) (fun _ _ => rfl))) (aj_e ej_non) (nomark _)))) (fun _ _ _ _ _ => (ej_op op_addA k_add (aj_e (ej_ix ix_seq k_ix (aj_v (pv 1)) (aj_v (pv 7)) (fun _ _ => rfl))) (aj_e ej_int))) (.inl rfl))
    (ssj_cons (sj_asg (ws := [8]) (ej_cmp (op_inP (hu64 hr)) k_in (aj_e ej_bl) (aj_e (ej_comp (own := [("_law_number", 9), ("_law_entry", 10)]) rfl nd (blkOk_by (N := N__law_far) (sc := defScope st__law_far) (by decide +kernel)) (ij_enum rfl T.b_enumerate (asj_cons (aj_v (pv 4)) asj_nil)) (fun _ _ _ _ _ => (gj_tup (n := 2) rfl (gsj_cons (gj_name (pg_name (i := 9) nd rfl (Or.inl rfl)) (by simp)) (gsj_cons (gj_name (pg_name (i := 10) nd rfl (Or.inl rfl)) (by simp)) gsj_nil)))) (fun _ _ _ _ _ => cj_nil) (fun _ _ _ _ _ => (ej_call (ok__law_is_change T) (hr.mono (by omega)) gd rfl T._law_is_change.M T._law_is_change.F.kp T._law_is_change.B (asj_cons (aj_v (pv 9)) (asj_cons (aj_v (pv 10)) asj_nil)))))) (by rfl)) (gj_name (pg_name (i := 8) nd rfl (Or.inl rfl)) (by simp)))
    (ssj_one (sj_app (pv 3) (aj_e (ej_if (tj_tr (aj_v (pv 8)) (fun _ => rfl)) ej_int (ej_if (tj_cmp (op_neP (hu64 hr)) k_ne (aj_v (pv 5)) (aj_e (ej_lst asj_nil)) (nomark _)) (ej_callB (cr_min rfl) k_minL rfl T.b_min rfl (asj_cons (aj_e (ej_op op_addA k_add (aj_v (pv 5)) (aj_e (ej_lst (asj_cons (aj_e ej_int) asj_nil))))) asj_nil)) ej_non))))))))
    (ssj_one (sj_asg (ws := [1]) (ej_var (pv 3)) (gj_name (pg_name (i := 1) nd rfl (Or.inr rfl)) (by simp)))))))
    (ssj_one (sj_ret (ej_callTy call_tuple_of k_tuple rfl T.b_tuple rfl (asj_cons (aj_v (pv 1)) asj_nil))))))) ?_
  rintro Γ κ Ex ⟨tb, rfl, wt, lt, h⟩
  have hz := sizeLine_eq
  have er : reps tb.length [D.non] = (List.range tb.length).map (foR (fsT tb) 0) := by
    refine List.ext_getElem (by simp [reps]) fun i h1 h2 => ?_
    rw [List.getElem_map, foR_0]
    simp [reps]
  unfold bodyF
  simp [tbD]
  refine ⟨by omega, ⟨by omega, by omega⟩, by omega, by omega, ?_⟩
  rw [er]
  generalize hTB : D.tup (List.map (fun st => D.tup (List.map (fun e => entD e.fst e.snd) st)) tb) = TB
  refine forGo_inv (fun t Γ => ∃ s2 s3 s4 s5 s8, Γ = [.v TB, .v (.lst ((List.range tb.length).map (foR (fsT tb) t))), s2, s3, s4, s5, .un, .un, s8, .un, .un]) ?_ ⟨_, _, _, _, _, rfl⟩ ?_
  · rintro t d hd Γ ⟨s2, s3, s4, s5, s8, rfl⟩ N hN
    obtain ⟨ht, rfl⟩ := rgN_get hd
    refine seq_cut (fun Γ' => Γ' = [.v TB, .v (.lst ((List.range tb.length).map (foR (fsT tb) t))), .v (.int (t : Nat)), .o none (.ls []), s4, s5, .un, .un, s8, .un, .un]) ?_ ?_
    rotate_left
    · intro Z hZ
      simp
      exact hZ _ rfl
    rintro _ rfl
    refine seq_cut (fun Γ' => ∃ s4 s5 s8, Γ' = [.v TB, .v (.lst ((List.range tb.length).map (foR (fsT tb) t))), .v (.int (t : Nat)), .o none (.ls ((List.range tb.length).map (foR (fsT tb) (t + 1)))), s4, s5, .un, .un, s8, .un, .un]) ?_ ?_
    rotate_left
    · intro Z hZ
      rw [← hTB]
      simp
      rw [hTB]
      refine forGo_inv (fun i Γ => ∃ s4 s5 s8, Γ = [.v TB, .v (.lst ((List.range tb.length).map (foR (fsT tb) t))), .v (.int (t : Nat)), .o none (.ls ((List.range i).map (foR (fsT tb) (t + 1)))), s4, s5, .un, .un, s8, .un, .un]) ?_ ⟨_, _, _, rfl⟩ ?_
      · rintro i d hd Γ ⟨s4, s5, s8, rfl⟩ N hN
        have hi : i < tb.length := by
          have := (List.getElem?_eq_some_iff.mp hd).1
          simpa using this
        obtain rfl : d = D.tup (tb[i].map fun e => entD e.1 e.2) := by
          rw [List.getElem?_map, List.getElem?_eq_getElem hi] at hd
          exact (Option.some.inj hd).symm
        have hfs := foL_getD hi
        have l27 := wt.len _ (List.getElem_mem hi)
        have nx := wt.nx _ (List.getElem_mem hi)
        rw [List.range_succ, List.map_append, List.map_singleton] at hN
        generalize tb[i] = st at hfs l27 nx
        simp only [gN]
        refine seq_cut (fun Γ' => Γ' = [.v TB, .v (.lst ((List.range tb.length).map (foR (fsT tb) t))), .v (.int (t : Nat)), .o none (.ls ((List.range i).map (foR (fsT tb) (t + 1)))), .v (.tup (st.map fun e => entD e.1 e.2)), .v (.lst ((mores (fsT tb) t st).map D.int)), .un, .un, s8, .un, .un]) ?_ ?_
        rotate_left
        · intro Z hZ
          simp
          refine ⟨by omega, compGo_map (fun d => match d with | .tup [_, .int x] => (fstR (fsT tb) t x.toNat).map (fun v => D.int (((v : Nat) : Int) + 1)) | _ => none) (fun d hd Y N hm => ?_) ?_⟩
          · obtain ⟨⟨w, x⟩, he, rfl⟩ := List.mem_map.mp hd
            have hx := nx _ he
            have at1 : atI ((List.range tb.length).map (foR (fsT tb) t)) x = some (foR (fsT tb) t x.toNat) := by
              obtain ⟨c, rfl⟩ : ∃ c : Nat, x = c := ⟨x.toNat, by omega⟩
              have hc : c < tb.length := by omega
              rw [atI_lt (by simpa using hc)]
              simp
            have hm : (match (fstR (fsT tb) t x.toNat).map (fun v => D.int (((v : Nat) : Int) + 1)) with | some y => Y y _ | none => N _) := hm
            have hfo : foR (fsT tb) t x.toNat = match fstR (fsT tb) t x.toNat with | some v => .int (v : Nat) | none => .non := rfl
            generalize D.tup (List.map (fun e => entD e.fst e.snd) st) = S4 at hm ⊢
            simp [entD, at1]
            cases hv : fstR (fsT tb) t x.toNat with
            | none =>
              rw [hv] at hm hfo
              rw [hfo]
              exact .inl ⟨rfl, hm⟩
            | some v =>
              rw [hv] at hm hfo
              have v1 := (fstR_some.mp hv).1
              rw [hfo]
              refine .inr ⟨rfl, ?_⟩
              exact hm
          · have e1 : List.filterMap (fun d => match d with | D.tup [_, .int x] => (fstR (fsT tb) t x.toNat).map (fun v => D.int (((v : Nat) : Int) + 1)) | _ => none) (st.map fun e => entD e.1 e.2) = (mores (fsT tb) t st).map D.int := by
              unfold mores
              rw [List.filterMap_map, List.map_filterMap]
              refine congrArg (fun f => List.filterMap f st) (funext fun e => ?_)
              show (fstR (fsT tb) t e.2.toNat).map (fun v => D.int (((v : Nat) : Int) + 1)) = _
              rw [Option.map_map]
              rfl
            rw [e1]
            simp [rstS]
            exact hZ _ rfl
        rintro _ rfl
        refine seq_cut (fun Γ' => ∃ b : Bool, Γ' = [.v TB, .v (.lst ((List.range tb.length).map (foR (fsT tb) t))), .v (.int (t : Nat)), .o none (.ls ((List.range i).map (foR (fsT tb) (t + 1)))), .v (.tup (st.map fun e => entD e.1 e.2)), .v (.lst ((mores (fsT tb) t st).map D.int)), .un, .un, .v (.bl b), .un, .un] ∧ (b = true ↔ true ∈ st.mapIdx fun k e => chB e.1 k)) ?_ ?_
        rotate_left
        · intro Z hZ
          simp
          refine ⟨by rw [enum_len, List.length_map]; omega, ?_⟩
          unfold enum
          rw [List.length_map]
          refine compGo_of (fun k => D.bl (chB (st.getD k (false, 0)).1 k)) (fun k hk Y hY => ?_) ?_
          · have hk : k < st.length := by simpa using hk
            have e1 : (st.map fun e => entD e.1 e.2).getD k .non = entD st[k].1 st[k].2 := by rw [List.getD_eq_getElem?_getD, List.getElem?_map, List.getElem?_eq_getElem hk]; rfl
            have e2 : st.getD k (false, 0) = st[k] := by rw [List.getD_eq_getElem?_getD, List.getElem?_eq_getElem hk]; rfl
            rw [e1]
            rw [e2] at hY
            generalize st[k] = e at hY
            obtain ⟨b, n⟩ := e
            simp
            refine callV (as := [.slot 9, .slot 10]) (ds := [.int (k : Nat), entD b n]) (fun κ h => by simp; exact h) ⟨by simp, rfl, trivial⟩ rfl fun K E hK hE => ⟨b, n, k, rfl, hK _ ?_⟩
            simp
            exact hY
          · have e3 : (List.range st.length).map (fun k => D.bl (chB (st.getD k (false, 0)).1 k)) = (st.mapIdx fun k e => chB e.1 k).map D.bl := by
              refine List.ext_getElem (by simp) fun k h1 h2 => ?_
              have hk : k < st.length := by simpa using h1
              have e2 : st.getD k (false, 0) = st[k] := by rw [List.getD_eq_getElem?_getD, List.getElem?_eq_getElem hk]; rfl
              rw [List.getElem_map, List.getElem_range, List.getElem_map, List.getElem_mapIdx, e2]
            rw [e3]
            generalize (st.mapIdx fun k e => chB e.1 k) = bs at hZ
            simp [rstS]
            refine ⟨⟨rfl, pls_of fun x hx => ?_, by simp [D.dep]⟩, hZ _ ⟨_, rfl, ?_⟩⟩
            · obtain ⟨y, _, rfl⟩ := List.mem_map.mp hx
              rfl
            · simp [vIn, inD, eqD_bl]
        rintro _ ⟨b, rfl, hb⟩
        simp
        have hln : (List.map (foR (fsT tb) (t + 1)) (List.range i)).length < sizeLine := by rw [List.length_map, List.length_range, hz]; omega
        cases b with
        | true =>
          rw [foR_near hfs (hb.mp rfl)] at hN
          simp
          exact ⟨none, _, ⟨rfl, rfl⟩, hln, hN _ ⟨_, _, _, rfl⟩⟩
        | false =>
          have hn : ¬ true ∈ st.mapIdx fun k e => chB e.1 k := fun e => by cases hb.mpr e
          have hml : (mores (fsT tb) t st).length ≤ 27 := by rw [← l27]; exact List.length_filterMap_le ..
          simp [eqD_nil]
          by_cases hm : mores (fsT tb) t st = []
          · rw [foR_none hfs hn hm] at hN
            refine ⟨?_, .inl ⟨hm, none, _, ⟨rfl, rfl⟩, hln, hN _ ⟨_, _, _, rfl⟩⟩⟩
            rw [hm]
            exact ⟨rfl, rfl, by decide⟩
          · rw [foR_more (by omega) hfs hn hm] at hN
            refine ⟨⟨pls_of fun x hx => ?_, rfl, ?_⟩, .inr ⟨hm, by omega, by omega, mores (fsT tb) t st ++ [99], ?_, by simp, none, _, ⟨rfl, rfl⟩, hln, hN _ ⟨_, _, _, rfl⟩⟩⟩
            · obtain ⟨y, _, rfl⟩ := List.mem_map.mp hx
              rfl
            · simp [D.dep, deps]
            · have := intL_map (mores (fsT tb) t st ++ [99])
              rw [List.map_append] at this
              exact this
      · rintro Γ' ⟨s4, s5, s8, rfl⟩
        simp
        exact hZ _ ⟨s4, s5, s8, rfl⟩
    rintro _ ⟨s4, s5, s8, rfl⟩
    simp [sVar]
    exact hN _ ⟨_, _, _, _, _, rfl⟩
  · rintro Γ' ⟨s2, s3, s4, s5, s8, rfl⟩
    simp
    rw [← hTB]
    exact h

end
end L3
namespace L3
open PySem PySem.Spec PyProof.Rows L2
section
variable {P : Program} {w : World} {K : PySem.W.Frag} {mg : Str → Option Value} {base : Heap}
theorem first_le {fs : List (List Key)} (ok : FsOk fs) : ∀ (v i : Nat), i < fs.length → rc fs v i = true → (∀ j, j < v → rc fs j i = false) → ∃ l : List Nat, l.length = v ∧ l.Nodup ∧ ∀ x ∈ l, x < fs.length ∧ ∃ u, u ≤ v ∧ rc fs u x = true
  | 0, i, _, h, _ => by cases h
  | v + 1, i, hi, h, hj => by
    obtain ⟨k, hk, q⟩ := rc_back ok hi h
    have one : ∀ u, u ≤ v + 1 → i < fs.length ∧ ∃ u, u ≤ v + 1 ∧ rc fs u i = true := fun _ _ => ⟨hi, v + 1, Nat.le_refl _, h⟩
    rcases q with rfl | ⟨j, hjl, rfl, hr⟩
    · have r1 : rc fs 1 i = true := rc_step hk (.inl rfl)
      have v0 : v = 0 := by
        by_cases e : v = 0
        · exact e
        · rw [hj 1 (by omega)] at r1
          cases r1
      subst v0
      exact ⟨[i], rfl, by simp, fun x hx => by rw [List.mem_singleton.mp hx]; exact one 0 (by omega)⟩
    · have fj : ∀ w, w < v → rc fs w j = false := fun w hw => by
        cases e : rc fs w j with
        | false => rfl
        | true =>
          have := rc_step (d := w) hk (.inr ⟨j, rfl, e⟩)
          rw [hj (w + 1) (by omega)] at this
          cases this
      obtain ⟨l, l1, l2, l3⟩ := first_le ok v j hjl hr fj
      refine ⟨i :: l, by rw [List.length_cons, l1], List.nodup_cons.mpr ⟨fun hm => ?_, l2⟩, fun x hx => ?_⟩
      · obtain ⟨_, u, hu, ru⟩ := l3 i hm
        rw [hj u (by omega)] at ru
        cases ru
      · rcases List.mem_cons.mp hx with rfl | hx
        · exact one 0 (by omega)
        · obtain ⟨a, u, hu, ru⟩ := l3 x hx
          exact ⟨a, u, by omega, ru⟩
theorem fst_le_n {fs : List (List Key)} (ok : FsOk fs) {t v i : Nat} (hi : i < fs.length) (h : fstR fs t i = some v) : v ≤ fs.length := by
  obtain ⟨_, h2, h3⟩ := fstR_some.mp h
  obtain ⟨l, l1, l2, l3⟩ := first_le ok v i hi h2 h3
  rw [← l1]
  exact nodup_lt _ l2 fun x hx => (l3 x hx).1
theorem sure_on {tb : List (List (Bool × Int))} (wt : WfT tb) {s : Nat} (hs : s < tb.length) (hn : fstR (fsT tb) (tb.length + 1) s = none) : ∀ e ∈ tb[s], fstR (fsT tb) (tb.length + 1) e.2.toNat = none := by
  intro e he
  have lf : (fsT tb).length = tb.length := List.length_map ..
  have nx := wt.nx _ (List.getElem_mem hs) e he
  have hfs := foL_getD hs
  have nn : ¬ true ∈ tb[s].mapIdx fun k e => chB e.1 k := fun h => by
    have := rcS_near (j := 0) hfs h
    rw [fstR_none.mp hn 1 (by omega)] at this
    cases this
  cases hv : fstR (fsT tb) (tb.length + 1) e.2.toNat with
  | none => rfl
  | some v =>
    have h1 := fst_le_n (fsT_ok wt) (by omega) hv
    have h2 := (rcS_far hfs nn).mpr ⟨e, he, (fstR_some.mp hv).2.1⟩
    rw [fstR_none.mp hn (v + 1) (by omega)] at h2
    cases h2
def chnT : List (List (Bool × Int)) := [List.replicate 27 (false, 1), List.replicate 27 (false, 2), List.replicate 27 (false, 3), List.replicate 27 (false, 4), List.replicate 27 (false, 5), List.replicate 27 (true, 5)]
theorem chn_wf : WfT chnT := ⟨by decide, by decide, by decide⟩
theorem chn_rc : ∀ (t s : Nat), s ≤ 5 → rc (fsT chnT) t s = decide (6 - s ≤ t)
  | 0, s, h => by
    rw [decide_eq_false (by omega)]
    rfl
  | t + 1, s, h => by
    have g : ∀ (x : Int), ¬ true ∈ (List.replicate 27 (false, x)).mapIdx fun k e => chB e.1 k := fun x hm => by
      obtain ⟨k, hk, e⟩ := List.mem_mapIdx.mp hm
      rw [List.getElem_replicate] at e
      cases e
    have step : ∀ (x s : Nat), x ≤ 5 → (fsT chnT).getD s [] = foL (List.replicate 27 (false, (x : Int))) → rc (fsT chnT) (t + 1) s = decide (6 - x ≤ t) := fun x s hx hs => by
      rw [← chn_rc t x hx, Bool.eq_iff_iff, rcS_far hs (g x)]
      constructor
      · rintro ⟨e, he, h⟩
        rw [(List.mem_replicate.mp he).2] at h
        exact h
      · intro h
        exact ⟨_, List.mem_replicate.mpr ⟨by decide, rfl⟩, h⟩
    have hx : s = 0 ∨ s = 1 ∨ s = 2 ∨ s = 3 ∨ s = 4 ∨ s = 5 := by omega
    rcases hx with rfl | rfl | rfl | rfl | rfl | rfl
    · rw [step 1 0 (by decide) rfl]; exact decide_eq_decide.mpr (by omega)
    · rw [step 2 1 (by decide) rfl]; exact decide_eq_decide.mpr (by omega)
    · rw [step 3 2 (by decide) rfl]; exact decide_eq_decide.mpr (by omega)
    · rw [step 4 3 (by decide) rfl]; exact decide_eq_decide.mpr (by omega)
    · rw [step 5 4 (by decide) rfl]; exact decide_eq_decide.mpr (by omega)
    · rw [rcS_near (st := List.replicate 27 (true, 5)) rfl (by decide), decide_eq_true (by omega)]
theorem chn_ds : (List.range chnT.length).map (dsD chnT) = [.int 6, .int 5, .int 4, .int 3, .int 2, .int 1] := by
  have g : ∀ s, s ≤ 5 → dsD chnT s = .int ((6 - s : Nat) : Int) := fun s hs => by
    have : fstR (fsT chnT) (chnT.length + 1) s = some (6 - s) := fstR_some.mpr ⟨by show _ ≤ 7; omega, by rw [chn_rc _ _ hs, decide_eq_true (by omega)], fun j hj => by rw [chn_rc _ _ hs, decide_eq_false (by omega)]⟩
    unfold dsD
    rw [this]
  show [dsD chnT 0, dsD chnT 1, dsD chnT 2, dsD chnT 3, dsD chnT 4, dsD chnT 5] = _
  rw [g 0 (by decide), g 1 (by decide), g 2 (by decide), g 3 (by decide), g 4 (by decide), g 5 (by decide)]
  rfl
theorem ds_some {tb : List (List (Bool × Int))} {s v : Nat} (h : fstR (fsT tb) (tb.length + 1) s = some v) : dsD tb s = .int (v : Nat) := by
  unfold dsD; rw [h]
theorem ds_none {tb : List (List (Bool × Int))} {s : Nat} (h : fstR (fsT tb) (tb.length + 1) s = none) : dsD tb s = .non := by
  unfold dsD; rw [h]
theorem vote_ds : (List.range voteB.length).map (dsD voteB) = [.int 2, .int 1] := by
  show [dsD voteB 0, dsD voteB 1] = _
  rw [ds_some (v := 2) (by decide +kernel), ds_some (v := 1) (by decide +kernel)]
  rfl
theorem first_ds : (List.range (oneB "takes_never").length).map (dsD (oneB "takes_never")) = [.non] := by
  show [dsD (oneB "takes_never") 0] = _
  rw [ds_none (by decide +kernel)]
theorem last_ds : (List.range (oneB "takes_always").length).map (dsD (oneB "takes_always")) = [.int 1] := by
  show [dsD (oneB "takes_always") 0] = _
  rw [ds_some (v := 1) (by decide +kernel)]
  rfl
theorem most_ds : (List.range mostB.length).map (dsD mostB) = [.int 2, .non, .int 1] := by
  show [dsD mostB 0, dsD mostB 1, dsD mostB 2] = _
  rw [ds_some (v := 2) (by decide +kernel), ds_none (by decide +kernel), ds_some (v := 1) (by decide +kernel)]
  rfl
theorem smT {xs : List D} (h : ∀ x ∈ xs, x.sm = true ∧ x.dep ≤ 1 ∧ x.wt ≤ 1000) (hl : xs.length ≤ 6) : (D.tup xs).sm = true ∧ (D.tup xs).dep ≤ 2 ∧ (D.tup xs).wt ≤ 7000 := by
  refine ⟨by rw [D.sm]; exact sms_of fun x hx => (h x hx).1, by rw [D.dep]; exact Nat.succ_le_succ (deps_le fun x hx => (h x hx).2.1), ?_⟩
  have := wts_le (k := 1000) (xs := xs) fun x hx => (h x hx).2.2
  rw [D.wt]
  omega
theorem smI {v : Nat} (h : v ≤ 100) : (D.int (v : Nat)).sm = true ∧ (D.int (v : Nat)).dep ≤ 1 ∧ (D.int (v : Nat)).wt ≤ 1000 :=
  ⟨decide_eq_true (by omega), by simp [D.dep], by simp [D.wt]⟩
theorem ds_sm {tb : List (List (Bool × Int))} (lt : tb.length ≤ 6) (s : Nat) : (dsD tb s).sm = true ∧ (dsD tb s).dep ≤ 1 ∧ (dsD tb s).wt ≤ 1000 := by
  cases e : fstR (fsT tb) (tb.length + 1) s with
  | none => rw [ds_none e]; exact ⟨rfl, by simp [D.dep], by simp [D.wt]⟩
  | some v =>
    rw [ds_some e]
    have := (fstR_some.mp e).1
    exact smI (by omega)
theorem ok_four {a b : D} (ha : a.sm = true ∧ a.dep ≤ 2 ∧ a.wt ≤ 7000) (hb : b.sm = true ∧ b.dep ≤ 2 ∧ b.wt ≤ 7000) : okRepr (.lst [a, b, a, b]) := by
  have g : ∀ x ∈ [a, b, a, b], x.sm = true ∧ x.dep ≤ 2 ∧ x.wt ≤ 7000 := fun x hx => by
    simp only [List.mem_cons, List.not_mem_nil, or_false] at hx
    rcases hx with e | e | e | e <;> rw [e] <;> assumption
  refine okRepr_of (by rw [D.sm]; exact sms_of fun x hx => (g x hx).1) ?_ ?_
  · rw [D.dep]
    exact Nat.le_trans (Nat.succ_le_succ (deps_le fun x hx => (g x hx).2.1)) (by decide)
  · have := wts_le (k := 7000) (xs := [a, b, a, b]) fun x hx => (g x hx).2.2
    rw [D.wt]
    simp at this
    omega
def c_law : SE := fun Γ κ _ => match Γ with | [.v (.scr ns)] => ns.length ≤ 63 ∧ κ (.leaf (.bl true)) Γ | _ => False

theorem ok_law (T : Txt K mg w) : FnG P w K mg base 6 T.law.f T.law.fd ["_law_script"] (spF K 1 c_law) := by
  have nd := sc_law.nd
  refine fn_imp (fn_L3 (k := 5) T.law.F sc_law rfl (by decide) fun cdv A outer s H vs Q E hr gd => (ssj_cons (sj_own (i := 1) nd rfl (Or.inl rfl) (ej_call (ok__law_stream T) (hr.mono (by omega)) gd rfl T._law_stream.M T._law_stream.F.kp T._law_stream.B (asj_cons (aj_v (pv 0)) asj_nil)))
    (ssj_cons (sj_for (ws := [2]) (passes_of rfl) rfl (ij_range1 rfl T.b_range (asj_cons (aj_e ej_int) asj_nil)) (gj_name (pg_name (i := 2) nd rfl (Or.inl rfl)) (by simp)) (ssj_cons (sj_asg (ws := [3]) (ej_call (ok__law_some T) (hr.mono (by omega)) gd rfl T._law_some.M T._law_some.F.kp T._law_some.B (asj_cons (aj_v (pv 1)) asj_nil)) (gj_name (pg_name (i := 3) nd rfl (Or.inl rfl)) (by simp)))
    (ssj_cons (sj_asg (ws := [4, 5]) (ej_tup (asj_cons (aj_e (ej_callB (call_reprP (hu64 hr) gd) k_repr rfl T.b_repr rfl (asj_cons (aj_v (pv 3)) asj_nil))) (asj_cons (aj_e (ej_call (ok__law_far T) (hr.mono (by omega)) gd rfl T._law_far.M T._law_far.F.kp T._law_far.B (asj_cons (aj_v (pv 3)) asj_nil))) asj_nil))) (gj_tup (n := 2) rfl (gsj_cons (gj_name (pg_name (i := 4) nd rfl (Or.inl rfl)) (by simp)) (gsj_cons (gj_name (pg_name (i := 5) nd rfl (Or.inr rfl)) (by simp)) gsj_nil))))
    (ssj_cons (sj_asg (ws := [6]) (ej_callTy call_tuple_of k_tuple rfl T.b_tuple rfl (asj_cons (aj_e (ej_comp (own := [("_law_state", 7)]) rfl nd (blkOk_by (N := N_law) (sc := defScope st_law) (by decide +kernel)) (ij_range1 rfl T.b_range (asj_cons (aj_e (ej_callB call_len k_len rfl T.b_len PySem.boot_len (asj_cons (aj_v (pv 3)) asj_nil))) asj_nil)) (fun _ _ _ _ _ => (gj_name (pg_name (i := 7) nd rfl (Or.inl rfl)) (by simp))) (fun _ _ _ _ _ => (cj_one (tj_cmp op_isN k_isN (aj_e (ej_ix ix_seq k_ix (aj_v (pv 5)) (aj_v (pv 7)) (fun _ _ => rfl))) (aj_e ej_non) (nomark _)))) (fun _ _ _ _ _ => (ej_var (pv 7))))) asj_nil)) (gj_name (pg_name (i := 6) nd rfl (Or.inl rfl)) (by simp)))
    (ssj_cons (sj_asg (ws := [8]) (ej_lst (asj_cons (aj_e (ej_call (ok_distances T) (hr.mono (by omega)) gd rfl T.distances.M T.distances.F.kp T.distances.B (asj_cons (aj_v (pv 3)) asj_nil))) (asj_cons (aj_e (ej_call (ok_settled T) (hr.mono (by omega)) gd rfl T.settled.M T.settled.F.kp T.settled.B (asj_cons (aj_v (pv 3)) asj_nil))) (asj_cons (aj_e (ej_call (ok_distances T) (hr.mono (by omega)) gd rfl T.distances.M T.distances.F.kp T.distances.B (asj_cons (aj_v (pv 3)) asj_nil))) (asj_cons (aj_e (ej_call (ok_settled T) (hr.mono (by omega)) gd rfl T.settled.M T.settled.F.kp T.settled.B (asj_cons (aj_v (pv 3)) asj_nil))) asj_nil))))) (gj_name (pg_name (i := 8) nd rfl (Or.inr rfl)) (by simp)))
    (ssj_cons (sj_if (WJ.tj (wj_or (tj_cmp (op_neP (hu64 hr)) k_ne (aj_e (ej_callB (call_reprP (hu64 hr) gd) k_repr rfl T.b_repr rfl (asj_cons (aj_v (pv 8)) asj_nil))) (aj_e (ej_callB (call_reprP (hu64 hr) gd) k_repr rfl T.b_repr rfl (asj_cons (aj_e (ej_lst (asj_cons (aj_e (ej_var (pv 5))) (asj_cons (aj_e (ej_var (pv 6))) (asj_cons (aj_e (ej_var (pv 5))) (asj_cons (aj_e (ej_var (pv 6))) asj_nil)))))) asj_nil))) (nomark _)) (wj_or1 (tj_cmp (op_neP (hu64 hr)) k_ne (aj_e (ej_callB (call_reprP (hu64 hr) gd) k_repr rfl T.b_repr rfl (asj_cons (aj_v (pv 3)) asj_nil))) (aj_v (pv 4)) (nomark _))))) (ssj_one (sj_ret ej_bl)) ssj_nil)
    (ssj_one (sj_for (ws := [7]) (passes_of rfl) rfl (ij_seq (aj_e (ej_ix ix_seq k_ix (aj_v (pv 8)) (aj_e ej_int) (fun _ _ => rfl)))) (gj_name (pg_name (i := 7) nd rfl (Or.inl rfl)) (by simp)) (ssj_one (sj_if (tj_cmp (op_neP (hu64 hr)) k_ne (aj_e (ej_comp (own := [("_law_who", 9), ("_law_later", 10)]) rfl nd (blkOk_by (N := N_law) (sc := defScope st_law) (by decide +kernel)) (ij_seq (aj_e (ej_ix ix_seq k_ix (aj_v (pv 3)) (aj_v (pv 7)) (fun _ _ => rfl)))) (fun _ _ _ _ _ => (gj_tup (n := 2) rfl (gsj_cons (gj_name (pg_name (i := 9) nd rfl (Or.inl rfl)) (by simp)) (gsj_cons (gj_name (pg_name (i := 10) nd rfl (Or.inl rfl)) (by simp)) gsj_nil)))) (fun _ _ _ _ _ => (cj_one (tj_cmp (op_notInP (hu64 hr)) k_notIn (aj_v (pv 10)) (aj_e (ej_ix ix_seq k_ix (aj_v (pv 8)) (aj_e ej_int) (fun _ _ => rfl))) (by rfl)))) (fun _ _ _ _ _ => (ej_var (pv 10))))) (aj_e (ej_lst asj_nil)) (nomark _)) (ssj_one (sj_ret ej_bl)) ssj_nil))))))))))
    (ssj_cons (sj_asg (ws := [11]) (ej_op op_addA k_add (aj_e (ej_callTy call_tuple_of k_tuple rfl T.b_tuple rfl (asj_cons (aj_e (ej_comp (own := [("_law_state", 7)]) rfl nd (blkOk_by (N := N_law) (sc := defScope st_law) (by decide +kernel)) (ij_range1 rfl T.b_range (asj_cons (aj_e ej_int) asj_nil)) (fun _ _ _ _ _ => (gj_name (pg_name (i := 7) nd rfl (Or.inl rfl)) (by simp))) (fun _ _ _ _ _ => cj_nil) (fun _ _ _ _ _ => (ej_op op_mulA k_mul (aj_e (ej_tup (asj_cons (aj_e (ej_tup (asj_cons (aj_e ej_str) (asj_cons (aj_e (ej_callB (call_min2 rfl) k_min2 rfl T.b_min rfl (asj_cons (aj_e (ej_op op_addA k_add (aj_v (pv 7)) (aj_e ej_int))) (asj_cons (aj_e ej_int) asj_nil)))) asj_nil)))) asj_nil))) (aj_e ej_int))))) asj_nil))) (aj_e (ej_tup (asj_cons (aj_e (ej_op op_mulA k_mul (aj_e (ej_tup (asj_cons (aj_e (ej_tup (asj_cons (aj_e ej_str) (asj_cons (aj_e ej_int) asj_nil)))) asj_nil))) (aj_e ej_int))) asj_nil)))) (gj_name (pg_name (i := 11) nd rfl (Or.inl rfl)) (by simp)))
    (ssj_cons (sj_setComp (i := 12) (own := [("_law_name", 13)]) rfl nd rfl rfl (sw_true rfl rfl rfl (by decide +kernel)) (blkOk_by (N := N_law) (sc := defScope st_law) (by decide +kernel)) (ij_seq (aj_e (ej_tup (asj_cons (aj_e ej_str) (asj_cons (aj_e ej_str) (asj_cons (aj_e ej_str) (asj_cons (aj_e ej_str) asj_nil))))))) (fun _ _ _ _ _ => (gj_name (pg_name (i := 13) nd rfl (Or.inl rfl)) (by simp))) (fun _ _ _ _ _ => cj_nil) (fun _ _ _ _ _ => (ej_call (ok_distances T) (hr.mono (by omega)) gd rfl T.distances.M T.distances.F.kp T.distances.B (asj_cons (aj_e (ej_call (ok_told_table T) (hr.mono (by omega)) gd rfl T.told_table.M T.told_table.F.kp T.told_table.B (asj_cons (aj_v (pv 13)) asj_nil))) asj_nil))) (.inl rfl))
    (ssj_one (sj_ret (ej_and (ej_cmp (op_eqP (hu64 hr)) k_eq (aj_e (ej_call (ok_distances T) (hr.mono (by omega)) gd rfl T.distances.M T.distances.F.kp T.distances.B (asj_cons (aj_v (pv 11)) asj_nil))) (aj_e (ej_tup (asj_cons (aj_e ej_int) (asj_cons (aj_e ej_int) (asj_cons (aj_e ej_int) (asj_cons (aj_e ej_int) (asj_cons (aj_e ej_int) (asj_cons (aj_e ej_int) asj_nil)))))))) (nomark _)) (ej_one (ej_cmp (op_eqP (hu64 hr)) k_eq (aj_v (pv 12)) (aj_e (ej_lst (asj_cons (aj_e (ej_tup (asj_cons (aj_e ej_int) (asj_cons (aj_e ej_int) asj_nil)))) (asj_cons (aj_e (ej_tup (asj_cons (aj_e ej_int) (asj_cons (aj_e ej_non) (asj_cons (aj_e ej_int) asj_nil))))) (asj_cons (aj_e (ej_tup (asj_cons (aj_e ej_non) asj_nil))) (asj_cons (aj_e (ej_tup (asj_cons (aj_e ej_int) asj_nil))) asj_nil)))))) (nomark _))))))))))) ?_
  intro Γ κ Ex h
  unfold c_law at h
  split at h
  case h_2 => exact h.elim
  rename_i ns
  obtain ⟨hl, h⟩ := h
  have hz := sizeLine_eq
  unfold bodyF
  refine seq_cut (fun Γ' => ∃ t, Γ' = [.v (.scr ns), .o none t, .un, .un, .un, .un, .un, .un, .un, .un, .un, .un, .un, .un] ∧ IsTank 0 t) ?_ ?_
  rotate_left
  · intro Z hZ
    simp
    refine callV (as := [.slot 0]) (ds := [.scr ns]) (fun κ h => by simp; exact h) ⟨rfl, trivial⟩ rfl fun K E hK hE => ⟨hl, fun t tk => hK _ ?_⟩
    simp
    exact hZ _ ⟨t, rfl, tk⟩
  rintro _ ⟨t, rfl, tk⟩
  refine seq_cut (fun Γ' => ∃ t s2 s3 s4 s5 s6 s7 s8, Γ' = [.v (.scr ns), .o none t, s2, s3, s4, s5, s6, s7, s8, .un, .un, .un, .un, .un]) ?_ ?_
  rotate_left
  · intro Z hZ
    simp
    refine forGo_inv (fun i Γ => ∃ t s2 s3 s4 s5 s6 s7 s8, Γ = [.v (.scr ns), .o none t, s2, s3, s4, s5, s6, s7, s8, .un, .un, .un, .un, .un] ∧ IsTank (3000 * i) t) ?_ ⟨t, _, _, _, _, _, _, _, rfl, tk⟩ ?_
    · clear tk t
      rintro i d hd Γ ⟨t, s2, s3, s4, s5, s6, s7, s8, rfl, tk⟩ N hN
      obtain ⟨hi, rfl⟩ := rgN_get hd
      refine seq_cut (fun Γ' => ∃ t tb, Γ' = [.v (.scr ns), .o none t, .v (.int (i : Nat)), .v (tbD tb), s4, s5, s6, s7, s8, .un, .un, .un, .un, .un] ∧ IsTank (3000 * (i + 1)) t ∧ WfT tb ∧ tb.length ≤ 6) ?_ ?_
      rotate_left
      · intro Z hZ
        simp
        refine callD (as := []) (ds := []) rfl (fun κ h => ⟨⟨_, rfl, by simp⟩, h⟩) trivial rfl fun K E hK hE => ⟨_, _, rfl, tk, by omega, fun tb t' wt lt tk' => hK _ _ ?_⟩
        simp
        exact hZ _ ⟨t', tb, rfl, tk'.mono (by omega), wt, lt⟩
      clear tk t
      rintro _ ⟨t, tb, rfl, tk, wt, lt⟩
      have lf : (fsT tb).length = tb.length := List.length_map ..
      generalize hdue : D.tup ((List.range tb.length).map (dsD tb)) = due
      generalize hsure : D.tup (((List.range tb.length).filter fun s => (fstR (fsT tb) (tb.length + 1) s).isNone).map fun s => .int (s : Nat)) = sure
      have okT := tb6_ok wt lt
      refine seq_cut (fun Γ' => Γ' = [.v (.scr ns), .o none t, .v (.int (i : Nat)), .v (tbD tb), .v (.str (tbD tb).rep), .v due, s6, s7, s8, .un, .un, .un, .un, .un]) ?_ ?_
      rotate_left
      · intro Z hZ
        simp
        refine ⟨okT, callV (as := [.slot 3]) (ds := [tbD tb]) (fun κ h => by simp; exact h) ⟨rfl, trivial⟩ rfl fun K E hK hE => ⟨tb, rfl, wt, lt, hK _ ?_⟩⟩
        simp
        rw [hdue]
        exact ⟨by omega, hZ _ rfl⟩
      rintro _ rfl
      refine seq_cut (fun Γ' => ∃ s7, Γ' = [.v (.scr ns), .o none t, .v (.int (i : Nat)), .v (tbD tb), .v (.str (tbD tb).rep), .v due, .v sure, s7, s8, .un, .un, .un, .un, .un]) ?_ ?_
      rotate_left
      · intro Z hZ
        rw [← hdue]
        have eT : tbD tb = .tup (tb.map fun st => .tup (st.map fun e => entD e.1 e.2)) := rfl
        rw [eT]
        simp
        rw [← eT]
        refine ⟨by omega, by omega, compGo_map (fun d => match d with | .int s => if (dsD tb s.toNat).isNon = true then some (.int s) else none | _ => none) (fun d hd Y N hm => ?_) ?_⟩
        · obtain ⟨k, hk, rfl⟩ := List.mem_map.mp hd
          have hk : k < tb.length := by simpa using hk
          have at1 : atI ((List.range tb.length).map (dsD tb)) (k : Int) = some (dsD tb k) := by
            rw [atI_lt (by simpa using hk)]
            simp
          have hm : (match (if (dsD tb k).isNon = true then some (D.int (k : Nat)) else none) with | some y => Y y _ | none => N _) := hm
          simp [at1, sVar]
          by_cases hn : (dsD tb k).isNon = true
          · rw [if_pos hn] at hm
            exact .inr ⟨hn, hm⟩
          · rw [if_neg hn] at hm
            exact .inl ⟨by simpa using hn, hm⟩
        · have e1 : ∀ l : List Nat, List.filterMap (fun d => match d with | D.int s => if (dsD tb s.toNat).isNon = true then some (D.int s) else none | _ => none) (l.map fun i => D.int (i : Nat)) = (l.filter fun s => (fstR (fsT tb) (tb.length + 1) s).isNone).map fun s => .int (s : Nat) := fun l => by
            induction l with
            | nil => rfl
            | cons s l ih =>
              rw [List.map_cons, List.filterMap_cons, List.filter_cons, ih]
              simp only [Int.toNat_natCast]
              have en : (dsD tb s).isNon = (fstR (fsT tb) (tb.length + 1) s).isNone := by
                cases e : fstR (fsT tb) (tb.length + 1) s with
                | some v => rw [ds_some e]; rfl
                | none => rw [ds_none e]; rfl
              by_cases hn : (fstR (fsT tb) (tb.length + 1) s).isNone = true
              · rw [if_pos (by rw [en]; exact hn), if_pos hn, List.map_cons]
              · rw [if_neg (by rw [en]; exact hn), if_neg hn]
          rw [e1]
          simp [rstS]
          rw [hdue, hsure]
          exact hZ _ ⟨_, rfl⟩
      rintro _ ⟨s7, rfl⟩
      refine seq_cut (fun Γ' => Γ' = [.v (.scr ns), .o none t, .v (.int (i : Nat)), .v (tbD tb), .v (.str (tbD tb).rep), .v due, .v sure, s7, .v (.lst [due, sure, due, sure]), .un, .un, .un, .un, .un]) ?_ ?_
      rotate_left
      · intro Z hZ
        simp
        refine callV (as := [.slot 3]) (ds := [tbD tb]) (fun κ h => by simp; exact h) ⟨rfl, trivial⟩ rfl fun K E hK hE => ⟨tb, rfl, wt, lt, hK _ ?_⟩
        refine callV (as := [.slot 3]) (ds := [tbD tb]) (fun κ h => by simp; exact h) ⟨rfl, trivial⟩ rfl fun K E hK hE => ⟨tb, rfl, wt, lt, hK _ ?_⟩
        refine callV (as := [.slot 3]) (ds := [tbD tb]) (fun κ h => by simp; exact h) ⟨rfl, trivial⟩ rfl fun K E hK hE => ⟨tb, rfl, wt, lt, hK _ ?_⟩
        refine callV (as := [.slot 3]) (ds := [tbD tb]) (fun κ h => by simp; exact h) ⟨rfl, trivial⟩ rfl fun K E hK hE => ⟨tb, rfl, wt, lt, hK _ ?_⟩
        simp
        rw [hdue, hsure]
        exact ⟨by omega, hZ _ rfl⟩
      rintro _ rfl
      refine seq_cut (fun Γ' => Γ' = [.v (.scr ns), .o none t, .v (.int (i : Nat)), .v (tbD tb), .v (.str (tbD tb).rep), .v due, .v sure, s7, .v (.lst [due, sure, due, sure]), .un, .un, .un, .un, .un]) ?_ ?_
      rotate_left
      · intro Z hZ
        have ok4 : okRepr (.lst [due, sure, due, sure]) := by
          rw [← hdue, ← hsure]
          refine ok_four (smT (fun x hx => ?_) (by simp; omega)) (smT (fun x hx => ?_) ?_)
          · obtain ⟨y, _, rfl⟩ := List.mem_map.mp hx
            exact ds_sm lt y
          · obtain ⟨y, hy, rfl⟩ := List.mem_map.mp hx
            have := (List.mem_filter.mp hy).1
            simp at this
            exact smI (by omega)
          · have := List.length_filter_le (fun s => (fstR (fsT tb) (tb.length + 1) s).isNone) (List.range tb.length)
            simp at this ⊢
            omega
        simp [okEq_str, eqD_str]
        exact ⟨ok4, by omega, ok4, okT, hZ _ rfl⟩
      rintro _ rfl
      simp
      subst hsure
      dsimp only
      generalize hsure : D.tup (((List.range tb.length).filter fun s => (fstR (fsT tb) (tb.length + 1) s).isNone).map fun s => .int (s : Nat)) = sure
      refine forGo_inv (fun j Γ => ∃ s7, Γ = [.v (.scr ns), .o none t, .v (.int (i : Nat)), .v (tbD tb), .v (.str (tbD tb).rep), .v due, .v sure, s7, .v (.lst [due, sure, due, sure]), .un, .un, .un, .un, .un]) ?_ ⟨_, rfl⟩ ?_
      rotate_left
      · rintro Γ' ⟨s7, rfl⟩
        exact hN _ ⟨t, _, _, _, _, _, _, _, rfl, tk⟩
      · rintro j d hd Γ ⟨s7, rfl⟩ N2 hN2
        obtain ⟨s, hs, rfl⟩ := List.mem_map.mp (List.mem_of_getElem? hd)
        obtain ⟨hs1, hs2⟩ := List.mem_filter.mp hs
        have hs1 : s < tb.length := by simpa using hs1
        have hs2 : fstR (fsT tb) (tb.length + 1) s = none := by simpa using hs2
        have at1 : atI (tb.map fun st => D.tup (st.map fun e => entD e.1 e.2)) (s : Int) = some (.tup (tb[s].map fun e => entD e.1 e.2)) := by
          rw [atI_lt (by simpa using hs1)]
          simp
        have so := sure_on wt hs1 hs2
        have l27 := wt.len _ (List.getElem_mem hs1)
        have nx := wt.nx _ (List.getElem_mem hs1)
        generalize tb[s] = st at at1 so l27 nx
        simp [tbD, at1]
        generalize hTT : D.tup (List.map (fun st => D.tup (List.map (fun e => entD e.fst e.snd) st)) tb) = TT
        refine ⟨by omega, compGo_map (fun _ => none) (fun d hd Y N hm => ?_) ?_⟩
        · obtain ⟨⟨w, x⟩, he, rfl⟩ := List.mem_map.mp hd
          have hx := nx _ he
          have sx := so _ he
          have hx : 0 ≤ x ∧ x < tb.length := hx
          have sx : fstR (fsT tb) (tb.length + 1) x.toNat = none := sx
          have vin : vIn (.int x) sure = true := by
            rw [← hsure]
            show inD (.int x) _ = true
            unfold inD
            rw [List.any_eq_true]
            exact ⟨.int x, List.mem_map.mpr ⟨x.toNat, List.mem_filter.mpr ⟨by simp; omega, by rw [sx]; rfl⟩, by rw [Int.toNat_of_nonneg hx.1]⟩, eqD_refl rfl⟩
          have oin : okIn (.int x) sure := by
            rw [← hsure]
            refine ⟨rfl, pls_of fun y hy => ?_, by simp [D.dep]⟩
            obtain ⟨z, _, rfl⟩ := List.mem_map.mp hy
            rfl
          simp [entD]
          unfold kNotIn
          rw [vin]
          refine ⟨oin, ?_⟩
          exact .inl ⟨rfl, hm⟩
        · have fm0 : ∀ l : List D, l.filterMap (fun _ => (none : Option D)) = [] := fun l => by induction l with
            | nil => rfl
            | cons a l ih => rw [List.filterMap_cons, ih]
          rw [fm0]
          simp [rstS]
          refine ⟨⟨rfl, rfl, by decide⟩, .inl ⟨eqD_refl rfl, ?_⟩⟩
          subst hTT
          exact hN2 _ ⟨_, rfl⟩
    · rintro Γ' ⟨t, s2, s3, s4, s5, s6, s7, s8, rfl, tk⟩
      exact hZ _ ⟨t, s2, s3, s4, s5, s6, s7, s8, rfl⟩
  clear tk t
  rintro _ ⟨t, s2, s3, s4, s5, s6, s7, s8, rfl⟩
  refine seq_cut (fun Γ' => ∃ s7, Γ' = [.v (.scr ns), .o none t, s2, s3, s4, s5, s6, s7, s8, .un, .un, .v (tbD chnT), .un, .un]) ?_ ?_
  rotate_left
  · intro Z hZ
    simp
    refine ⟨by omega, compGo_of (fun s => D.tup (reps 27 [.tup [.str "old", .int (if (5 : Int) < (s : Nat) + 1 then 5 else (s : Nat) + 1)]])) (fun k hk Y hY => ?_) ?_⟩
    · have hk : k < 5 := by simpa using hk
      simp
      exact ⟨by omega, by omega, by omega, hY⟩
    · have e1 : List.map (fun s : Nat => D.tup (reps 27 [.tup [.str "old", .int (if (5 : Int) < (s : Nat) + 1 then 5 else (s : Nat) + 1)]])) (List.range 5) ++ [D.tup (reps 27 [D.tup [D.str "new", D.int 5]])] = chnT.map fun st => .tup (st.map fun e => entD e.1 e.2) := rfl
      simp [rstS]
      refine ⟨by omega, by omega, by omega, by omega, by omega, ?_⟩
      exact hZ _ ⟨_, rfl⟩
  clear s7
  rintro _ ⟨s7, rfl⟩
  refine seq_cut (fun Γ' => Γ' = [.v (.scr ns), .o none t, s2, s3, s4, s5, s6, s7, s8, .un, .un, .v (tbD chnT), .v (.lst [.tup [.int 2, .int 1], .tup [.int 2, .non, .int 1], .tup [.non], .tup [.int 1]]), .un]) ?_ ?_
  rotate_left
  · intro Z hZ
    simp
    refine ⟨by omega, ?_⟩
    generalize hΓ : [S.v (D.scr ns), S.o none t, s2, s3, s4, s5, s6, s7, s8, S.un, S.un, S.v (tbD chnT), S.un, S.un] = Γ0
    have go : ∀ (z : Str) (tb : List (List (Bool × Int))) (xs : List D), toldT z = some (tbD tb) → WfT tb → tb.length ≤ 6 → (List.range tb.length).map (dsD tb) = xs → ∀ (Y : D → List S → Prop), Y (.tup xs) Γ0 → gN 13 (.str z) Γ0 fun Γ2 => sCallN 1 c_distances (aCons (aE (sCallN 1 c_told_table (aCons (aV 13) aNil))) aNil) Γ2 (fun t Γ3 => Y t.fz (clr [13] Γ3)) noX := by
      intro z tb xs et wt lt ex Y hY
      subst hΓ
      simp
      refine call_1e (callV (as := [.slot 13]) (ds := [.str z]) (fun κ h => by simp; exact h) ⟨rfl, trivial⟩ rfl fun K E hK hE => ⟨_, et, hK _ ?_⟩)
      refine callV (as := [.val (tbD tb)]) (ds := [tbD tb]) (fun κ h => by simp; exact h) ⟨rfl, trivial⟩ rfl fun K E hK hE => ⟨tb, rfl, wt, lt, hK _ ?_⟩
      rw [ex]
      simp
      exact hY
    show compGo _ _ _ _ (List.map D.str [Str.ofString "vote", Str.ofString "most", Str.ofString "first", Str.ofString "last"]) _ _
    refine compGo_of (fun z : Str => if z = "vote" then .tup [.int 2, .int 1] else if z = "most" then .tup [.int 2, .non, .int 1] else if z = "first" then .tup [.non] else .tup [.int 1]) (fun z hz2 Y hY => ?_) ?_
    · simp only [List.mem_cons, List.not_mem_nil, or_false] at hz2
      rcases hz2 with rfl | rfl | rfl | rfl
      · exact go _ voteB _ rfl voteB_wf (by decide) vote_ds Y hY
      · exact go _ mostB _ rfl mostB_wf (by decide) most_ds Y hY
      · exact go _ (oneB "takes_never") _ (by rw [← oneB_D]; rfl) (oneB_wf _) (by decide) first_ds Y hY
      · exact go _ (oneB "takes_always") _ (by rw [← oneB_D]; rfl) (oneB_wf _) (by decide) last_ds Y hY
    · subst hΓ
      simp [rstS]
      exact hZ _ rfl
  rintro _ rfl
  simp
  refine callV (as := [.slot 11]) (ds := [tbD chnT]) (fun κ h => by simp; exact h) ⟨rfl, trivial⟩ rfl fun K E hK hE => ⟨chnT, rfl, chn_wf, by decide, hK _ ?_⟩
  rw [chn_ds]
  simp
  refine ⟨by omega, ⟨rfl, rfl, by decide⟩, .inr ⟨eqD_refl rfl, by omega, by omega, by omega, by omega, ⟨rfl, rfl, by decide⟩, ?_⟩⟩
  rw [eqD_refl rfl]
  exact h

end
end L3
namespace L3
open PySem PySem.Spec PyProof.Rows L2
theorem all_mk {l : PySem.W.OpenLaw} {w : World} {K : PySem.W.Frag} {h : Heap} {mg : Str → Option Value} {fa : Addr} (X : K.In h) (G : h.Ns mainGlobals mg) (hfa : mg "law" = some (.ref fa))
    {f0 f1 f2 f3 f4 f5 f6 f7 f8 f9 f10 f11 f12 f13 f14 f15 f16 f17 f18 f19 f20 f21 f22 f23 f24 f25 f26 f27 f28 f29 f30 : Addr} {od0 an0 od1 an1 od2 an2 od3 an3 od4 an4 od5 an5 od6 an6 od7 an7 od8 an8 od9 an9 od10 an10 od11 an11 od12 an12 od13 an13 od14 an14 od15 an15 od16 an16 od17 an17 od18 an18 od19 an19 od20 an20 od21 an21 od22 an22 od23 an23 od24 an24 od25 an25 od26 an26 od27 an27 od28 an28 od29 an29 od30 an30 : Option Addr} {sl0 sl1 sl2 sl3 sl4 sl5 sl6 sl7 sl8 sl9 sl10 sl11 sl12 sl13 sl14 sl15 sl16 sl17 sl18 sl19 sl20 sl21 sl22 sl23 sl24 sl25 sl26 sl27 sl28 sl29 sl30 : Array (Option Value)} {oc0 kV0 dc0 pm0 cd0 ct0 oc1 kV1 dc1 pm1 cd1 ct1 oc2 kV2 dc2 pm2 cd2 ct2 oc3 kV3 dc3 pm3 cd3 ct3 oc4 kV4 dc4 pm4 cd4 ct4 oc5 kV5 dc5 pm5 cd5 ct5 oc6 kV6 dc6 pm6 cd6 ct6 oc7 kV7 dc7 pm7 cd7 ct7 oc8 kV8 dc8 pm8 cd8 ct8 oc9 kV9 dc9 pm9 cd9 ct9 oc10 kV10 dc10 pm10 cd10 ct10 oc11 kV11 dc11 pm11 cd11 ct11 oc12 kV12 dc12 pm12 cd12 ct12 oc13 kV13 dc13 pm13 cd13 ct13 oc14 kV14 dc14 pm14 cd14 ct14 oc15 kV15 dc15 pm15 cd15 ct15 oc16 kV16 dc16 pm16 cd16 ct16 oc17 kV17 dc17 pm17 cd17 ct17 oc18 kV18 dc18 pm18 cd18 ct18 oc19 kV19 dc19 pm19 cd19 ct19 oc20 kV20 dc20 pm20 cd20 ct20 oc21 kV21 dc21 pm21 cd21 ct21 oc22 kV22 dc22 pm22 cd22 ct22 oc23 kV23 dc23 pm23 cd23 ct23 oc24 kV24 dc24 pm24 cd24 ct24 oc25 kV25 dc25 pm25 cd25 ct25 oc26 kV26 dc26 pm26 cd26 ct26 oc27 kV27 dc27 pm27 cd27 ct27 oc28 kV28 dc28 pm28 cd28 ct28 oc29 kV29 dc29 pm29 cd29 ct29 oc30 kV30 dc30 pm30 cd30 ct30 : Value}
    (a0 : PySem.W.nsIn K mainGlobals "turned_round" = some (some (.ref f0))) (l0 : K.lookup f0 = some ⟨oc0, od0, .func (PySem.W.fnOf "turned_round" "turned_round" (defArgs st_turned_round) (defBody st_turned_round) (defScope st_turned_round) .none kV0 dc0 pm0 an0 cd0 ct0), sl0⟩) (c0 : PySem.W.codeIn K cd0 "turned_round" = true) (k0 : PySem.W.keepIn K (.ref f0) = true)
    (a1 : PySem.W.nsIn K mainGlobals "fewest_steps" = some (some (.ref f1))) (l1 : K.lookup f1 = some ⟨oc1, od1, .func (PySem.W.fnOf "fewest_steps" "fewest_steps" (defArgs st_fewest_steps) (defBody st_fewest_steps) (defScope st_fewest_steps) .none kV1 dc1 pm1 an1 cd1 ct1), sl1⟩) (c1 : PySem.W.codeIn K cd1 "fewest_steps" = true) (k1 : PySem.W.keepIn K (.ref f1) = true)
    (a2 : PySem.W.nsIn K mainGlobals "is_change" = some (some (.ref f2))) (l2 : K.lookup f2 = some ⟨oc2, od2, .func (PySem.W.fnOf "is_change" "is_change" (defArgs st_is_change) (defBody st_is_change) (defScope st_is_change) .none kV2 dc2 pm2 an2 cd2 ct2), sl2⟩) (c2 : PySem.W.codeIn K cd2 "is_change" = true) (k2 : PySem.W.keepIn K (.ref f2) = true)
    (a3 : PySem.W.nsIn K mainGlobals "takes_never" = some (some (.ref f3))) (l3 : K.lookup f3 = some ⟨oc3, od3, .func (PySem.W.fnOf "takes_never" "takes_never" (defArgs st_takes_never) (defBody st_takes_never) (defScope st_takes_never) .none kV3 dc3 pm3 an3 cd3 ct3), sl3⟩) (c3 : PySem.W.codeIn K cd3 "takes_never" = true) (k3 : PySem.W.keepIn K (.ref f3) = true)
    (a4 : PySem.W.nsIn K mainGlobals "takes_always" = some (some (.ref f4))) (l4 : K.lookup f4 = some ⟨oc4, od4, .func (PySem.W.fnOf "takes_always" "takes_always" (defArgs st_takes_always) (defBody st_takes_always) (defScope st_takes_always) .none kV4 dc4 pm4 an4 cd4 ct4), sl4⟩) (c4 : PySem.W.codeIn K cd4 "takes_always" = true) (k4 : PySem.W.keepIn K (.ref f4) = true)
    (a5 : PySem.W.nsIn K mainGlobals "takes_begins" = some (some (.ref f5))) (l5 : K.lookup f5 = some ⟨oc5, od5, .func (PySem.W.fnOf "takes_begins" "takes_begins" (defArgs st_takes_begins) (defBody st_takes_begins) (defScope st_takes_begins) .none kV5 dc5 pm5 an5 cd5 ct5), sl5⟩) (c5 : PySem.W.codeIn K cd5 "takes_begins" = true) (k5 : PySem.W.keepIn K (.ref f5) = true)
    (a6 : PySem.W.nsIn K mainGlobals "takes_ends" = some (some (.ref f6))) (l6 : K.lookup f6 = some ⟨oc6, od6, .func (PySem.W.fnOf "takes_ends" "takes_ends" (defArgs st_takes_ends) (defBody st_takes_ends) (defScope st_takes_ends) .none kV6 dc6 pm6 an6 cd6 ct6), sl6⟩) (c6 : PySem.W.codeIn K cd6 "takes_ends" = true) (k6 : PySem.W.keepIn K (.ref f6) = true)
    (a7 : PySem.W.nsIn K mainGlobals "takes_cover" = some (some (.ref f7))) (l7 : K.lookup f7 = some ⟨oc7, od7, .func (PySem.W.fnOf "takes_cover" "takes_cover" (defArgs st_takes_cover) (defBody st_takes_cover) (defScope st_takes_cover) .none kV7 dc7 pm7 an7 cd7 ct7), sl7⟩) (c7 : PySem.W.codeIn K cd7 "takes_cover" = true) (k7 : PySem.W.keepIn K (.ref f7) = true)
    (a8 : PySem.W.nsIn K mainGlobals "takes_inner" = some (some (.ref f8))) (l8 : K.lookup f8 = some ⟨oc8, od8, .func (PySem.W.fnOf "takes_inner" "takes_inner" (defArgs st_takes_inner) (defBody st_takes_inner) (defScope st_takes_inner) .none kV8 dc8 pm8 an8 cd8 ct8), sl8⟩) (c8 : PySem.W.codeIn K cd8 "takes_inner" = true) (k8 : PySem.W.keepIn K (.ref f8) = true)
    (a9 : PySem.W.nsIn K mainGlobals "takes_least" = some (some (.ref f9))) (l9 : K.lookup f9 = some ⟨oc9, od9, .func (PySem.W.fnOf "takes_least" "takes_least" (defArgs st_takes_least) (defBody st_takes_least) (defScope st_takes_least) .none kV9 dc9 pm9 an9 cd9 ct9), sl9⟩) (c9 : PySem.W.codeIn K cd9 "takes_least" = true) (k9 : PySem.W.keepIn K (.ref f9) = true)
    (a10 : PySem.W.nsIn K mainGlobals "takes_ranked" = some (some (.ref f10))) (l10 : K.lookup f10 = some ⟨oc10, od10, .func (PySem.W.fnOf "takes_ranked" "takes_ranked" (defArgs st_takes_ranked) (defBody st_takes_ranked) (defScope st_takes_ranked) .none kV10 dc10 pm10 an10 cd10 ct10), sl10⟩) (c10 : PySem.W.codeIn K cd10 "takes_ranked" = true) (k10 : PySem.W.keepIn K (.ref f10) = true)
    (a11 : PySem.W.nsIn K mainGlobals "one_state" = some (some (.ref f11))) (l11 : K.lookup f11 = some ⟨oc11, od11, .func (PySem.W.fnOf "one_state" "one_state" (defArgs st_one_state) (defBody st_one_state) (defScope st_one_state) .none kV11 dc11 pm11 an11 cd11 ct11), sl11⟩) (c11 : PySem.W.codeIn K cd11 "one_state" = true) (k11 : PySem.W.keepIn K (.ref f11) = true)
    (a12 : PySem.W.nsIn K mainGlobals "state_by_value" = some (some (.ref f12))) (l12 : K.lookup f12 = some ⟨oc12, od12, .func (PySem.W.fnOf "state_by_value" "state_by_value" (defArgs st_state_by_value) (defBody st_state_by_value) (defScope st_state_by_value) .none kV12 dc12 pm12 an12 cd12 ct12), sl12⟩) (c12 : PySem.W.codeIn K cd12 "state_by_value" = true) (k12 : PySem.W.keepIn K (.ref f12) = true)
    (a13 : PySem.W.nsIn K mainGlobals "vote_table" = some (some (.ref f13))) (l13 : K.lookup f13 = some ⟨oc13, od13, .func (PySem.W.fnOf "vote_table" "vote_table" (defArgs st_vote_table) (defBody st_vote_table) (defScope st_vote_table) .none kV13 dc13 pm13 an13 cd13 ct13), sl13⟩) (c13 : PySem.W.codeIn K cd13 "vote_table" = true) (k13 : PySem.W.keepIn K (.ref f13) = true)
    (a14 : PySem.W.nsIn K mainGlobals "most_table" = some (some (.ref f14))) (l14 : K.lookup f14 = some ⟨oc14, od14, .func (PySem.W.fnOf "most_table" "most_table" (defArgs st_most_table) (defBody st_most_table) (defScope st_most_table) .none kV14 dc14 pm14 an14 cd14 ct14), sl14⟩) (c14 : PySem.W.codeIn K cd14 "most_table" = true) (k14 : PySem.W.keepIn K (.ref f14) = true)
    (a15 : PySem.W.nsIn K mainGlobals "told_table" = some (some (.ref f15))) (l15 : K.lookup f15 = some ⟨oc15, od15, .func (PySem.W.fnOf "told_table" "told_table" (defArgs st_told_table) (defBody st_told_table) (defScope st_told_table) .none kV15 dc15 pm15 an15 cd15 ct15), sl15⟩) (c15 : PySem.W.codeIn K cd15 "told_table" = true) (k15 : PySem.W.keepIn K (.ref f15) = true)
    (a16 : PySem.W.nsIn K mainGlobals "followers_in" = some (some (.ref f16))) (l16 : K.lookup f16 = some ⟨oc16, od16, .func (PySem.W.fnOf "followers_in" "followers_in" (defArgs st_followers_in) (defBody st_followers_in) (defScope st_followers_in) .none kV16 dc16 pm16 an16 cd16 ct16), sl16⟩) (c16 : PySem.W.codeIn K cd16 "followers_in" = true) (k16 : PySem.W.keepIn K (.ref f16) = true)
    (a17 : PySem.W.nsIn K mainGlobals "distances" = some (some (.ref f17))) (l17 : K.lookup f17 = some ⟨oc17, od17, .func (PySem.W.fnOf "distances" "distances" (defArgs st_distances) (defBody st_distances) (defScope st_distances) .none kV17 dc17 pm17 an17 cd17 ct17), sl17⟩) (c17 : PySem.W.codeIn K cd17 "distances" = true) (k17 : PySem.W.keepIn K (.ref f17) = true)
    (a18 : PySem.W.nsIn K mainGlobals "settled" = some (some (.ref f18))) (l18 : K.lookup f18 = some ⟨oc18, od18, .func (PySem.W.fnOf "settled" "settled" (defArgs st_settled) (defBody st_settled) (defScope st_settled) .none kV18 dc18 pm18 an18 cd18 ct18), sl18⟩) (c18 : PySem.W.codeIn K cd18 "settled" = true) (k18 : PySem.W.keepIn K (.ref f18) = true)
    (a19 : PySem.W.nsIn K mainGlobals "_law_stream" = some (some (.ref f19))) (l19 : K.lookup f19 = some ⟨oc19, od19, .func (PySem.W.fnOf "_law_stream" "_law_stream" (defArgs st__law_stream) (defBody st__law_stream) (defScope st__law_stream) .none kV19 dc19 pm19 an19 cd19 ct19), sl19⟩) (c19 : PySem.W.codeIn K cd19 "_law_stream" = true) (k19 : PySem.W.keepIn K (.ref f19) = true)
    (a20 : PySem.W.nsIn K mainGlobals "_law_draw" = some (some (.ref f20))) (l20 : K.lookup f20 = some ⟨oc20, od20, .func (PySem.W.fnOf "_law_draw" "_law_draw" (defArgs st__law_draw) (defBody st__law_draw) (defScope st__law_draw) .none kV20 dc20 pm20 an20 cd20 ct20), sl20⟩) (c20 : PySem.W.codeIn K cd20 "_law_draw" = true) (k20 : PySem.W.keepIn K (.ref f20) = true)
    (a21 : PySem.W.nsIn K mainGlobals "_law_pick" = some (some (.ref f21))) (l21 : K.lookup f21 = some ⟨oc21, od21, .func (PySem.W.fnOf "_law_pick" "_law_pick" (defArgs st__law_pick) (defBody st__law_pick) (defScope st__law_pick) .none kV21 dc21 pm21 an21 cd21 ct21), sl21⟩) (c21 : PySem.W.codeIn K cd21 "_law_pick" = true) (k21 : PySem.W.keepIn K (.ref f21) = true)
    (a22 : PySem.W.nsIn K mainGlobals "_law_names" = some (some (.ref f22))) (l22 : K.lookup f22 = some ⟨oc22, od22, .func (PySem.W.fnOf "_law_names" "_law_names" (defArgs st__law_names) (defBody st__law_names) (defScope st__law_names) .none kV22 dc22 pm22 an22 cd22 ct22), sl22⟩) (c22 : PySem.W.codeIn K cd22 "_law_names" = true) (k22 : PySem.W.keepIn K (.ref f22) = true)
    (a23 : PySem.W.nsIn K mainGlobals "_law_table" = some (some (.ref f23))) (l23 : K.lookup f23 = some ⟨oc23, od23, .func (PySem.W.fnOf "_law_table" "_law_table" (defArgs st__law_table) (defBody st__law_table) (defScope st__law_table) .none kV23 dc23 pm23 an23 cd23 ct23), sl23⟩) (c23 : PySem.W.codeIn K cd23 "_law_table" = true) (k23 : PySem.W.keepIn K (.ref f23) = true)
    (a24 : PySem.W.nsIn K mainGlobals "_law_twin" = some (some (.ref f24))) (l24 : K.lookup f24 = some ⟨oc24, od24, .func (PySem.W.fnOf "_law_twin" "_law_twin" (defArgs st__law_twin) (defBody st__law_twin) (defScope st__law_twin) .none kV24 dc24 pm24 an24 cd24 ct24), sl24⟩) (c24 : PySem.W.codeIn K cd24 "_law_twin" = true) (k24 : PySem.W.keepIn K (.ref f24) = true)
    (a25 : PySem.W.nsIn K mainGlobals "_law_calm" = some (some (.ref f25))) (l25 : K.lookup f25 = some ⟨oc25, od25, .func (PySem.W.fnOf "_law_calm" "_law_calm" (defArgs st__law_calm) (defBody st__law_calm) (defScope st__law_calm) .none kV25 dc25 pm25 an25 cd25 ct25), sl25⟩) (c25 : PySem.W.codeIn K cd25 "_law_calm" = true) (k25 : PySem.W.keepIn K (.ref f25) = true)
    (a26 : PySem.W.nsIn K mainGlobals "_law_falling" = some (some (.ref f26))) (l26 : K.lookup f26 = some ⟨oc26, od26, .func (PySem.W.fnOf "_law_falling" "_law_falling" (defArgs st__law_falling) (defBody st__law_falling) (defScope st__law_falling) .none kV26 dc26 pm26 an26 cd26 ct26), sl26⟩) (c26 : PySem.W.codeIn K cd26 "_law_falling" = true) (k26 : PySem.W.keepIn K (.ref f26) = true)
    (a27 : PySem.W.nsIn K mainGlobals "_law_some" = some (some (.ref f27))) (l27 : K.lookup f27 = some ⟨oc27, od27, .func (PySem.W.fnOf "_law_some" "_law_some" (defArgs st__law_some) (defBody st__law_some) (defScope st__law_some) .none kV27 dc27 pm27 an27 cd27 ct27), sl27⟩) (c27 : PySem.W.codeIn K cd27 "_law_some" = true) (k27 : PySem.W.keepIn K (.ref f27) = true)
    (a28 : PySem.W.nsIn K mainGlobals "_law_is_change" = some (some (.ref f28))) (l28 : K.lookup f28 = some ⟨oc28, od28, .func (PySem.W.fnOf "_law_is_change" "_law_is_change" (defArgs st__law_is_change) (defBody st__law_is_change) (defScope st__law_is_change) .none kV28 dc28 pm28 an28 cd28 ct28), sl28⟩) (c28 : PySem.W.codeIn K cd28 "_law_is_change" = true) (k28 : PySem.W.keepIn K (.ref f28) = true)
    (a29 : PySem.W.nsIn K mainGlobals "_law_far" = some (some (.ref f29))) (l29 : K.lookup f29 = some ⟨oc29, od29, .func (PySem.W.fnOf "_law_far" "_law_far" (defArgs st__law_far) (defBody st__law_far) (defScope st__law_far) .none kV29 dc29 pm29 an29 cd29 ct29), sl29⟩) (c29 : PySem.W.codeIn K cd29 "_law_far" = true) (k29 : PySem.W.keepIn K (.ref f29) = true)
    (a30 : PySem.W.nsIn K mainGlobals "law" = some (some (.ref f30))) (l30 : K.lookup f30 = some ⟨oc30, od30, .func (PySem.W.fnOf "law" "law" (defArgs st_law) (defBody st_law) (defScope st_law) .none kV30 dc30 pm30 an30 cd30 ct30), sl30⟩) (c30 : PySem.W.codeIn K cd30 "law" = true) (k30 : PySem.W.keepIn K (.ref f30) = true)
    (z_abs : PySem.W.nsIn K mainGlobals "abs" = some none)
    (z_enumerate : PySem.W.nsIn K mainGlobals "enumerate" = some none)
    (z_int : PySem.W.nsIn K mainGlobals "int" = some none)
    (z_isinstance : PySem.W.nsIn K mainGlobals "isinstance" = some none)
    (z_len : PySem.W.nsIn K mainGlobals "len" = some none)
    (z_list : PySem.W.nsIn K mainGlobals "list" = some none)
    (z_min : PySem.W.nsIn K mainGlobals "min" = some none)
    (z_range : PySem.W.nsIn K mainGlobals "range" = some none)
    (z_repr : PySem.W.nsIn K mainGlobals "repr" = some none)
    (z_str : PySem.W.nsIn K mainGlobals "str" = some none)
    (z_tuple : PySem.W.nsIn K mainGlobals "tuple" = some none)
    {p_SIGNS : Addr} {i_SIGNS : Array Value} {n_SIGNS : Nat} {q_SIGNS : Array (Option Value)} (y_SIGNS : PySem.W.nsIn K mainGlobals "SIGNS" = some (some (.ref p_SIGNS))) (l_SIGNS : K.lookup p_SIGNS = some ⟨.type "tuple", none, .seq i_SIGNS n_SIGNS, q_SIGNS⟩) (v_SIGNS : i_SIGNS.size ≤ sizeLine ∧ Vals ((["<", "=", ">"] : List Str).map V.str) i_SIGNS.toList)
    {p_RULES : Addr} {i_RULES : Array DictEntry} {n_RULES : Nat} (y_RULES : PySem.W.nsIn K mainGlobals "RULES" = some (some (.ref p_RULES))) (l_RULES : K.lookup p_RULES = some ⟨.type "dict", none, .dict i_RULES n_RULES, #[]⟩) (h_RULES : i_RULES.toList.map He.keyOf = He.keysIn w.params ["first", "last", "begins", "ends", "cover", "inner", "least", "ranked"]) (s_RULES : (p_RULES == sysModules) = false) (e_RULES_0 : PySem.W.nsIn K p_RULES "first" = some (some (.ref f3))) (e_RULES_1 : PySem.W.nsIn K p_RULES "last" = some (some (.ref f4))) (e_RULES_2 : PySem.W.nsIn K p_RULES "begins" = some (some (.ref f5))) (e_RULES_3 : PySem.W.nsIn K p_RULES "ends" = some (some (.ref f6))) (e_RULES_4 : PySem.W.nsIn K p_RULES "cover" = some (some (.ref f7))) (e_RULES_5 : PySem.W.nsIn K p_RULES "inner" = some (some (.ref f8))) (e_RULES_6 : PySem.W.nsIn K p_RULES "least" = some (some (.ref f9))) (e_RULES_7 : PySem.W.nsIn K p_RULES "ranked" = some (some (.ref f10)))
    {t_CHANGED : Tok} (y_CHANGED : PySem.W.nsIn K mainGlobals "CHANGED" = some (some (.str "changed" t_CHANGED))) :
    ∃ fd : FuncData, (∀ (s : Shared) (v : Value), BindsTo s fd ⟨[v], []⟩ [("_law_script", v)]) ∧ ∀ base : Heap, K.In base → base.Ns mainGlobals mg → FnG l.prog w K mg base 6 fa fd ["_law_script"] (spF K 1 c_law) := by
  have e := hfa.symm.trans (PySem.W.mg_of X G a30)
  cases e
  have F0 := fun_mk (st := st_turned_round) l0 c0 k0
  have b0 := F0.binds (ps := ["follows"]) fun _ _ _ _ _ _ us hl => match us, hl with | [_], _ => rfl
  have F1 := fun_mk (st := st_fewest_steps) l1 c1 k1
  have b1 := F1.binds (ps := ["follows", "goals"]) fun _ _ _ _ _ _ us hl => match us, hl with | [_, _], _ => rfl
  have F2 := fun_mk (st := st_is_change) l2 c2 k2
  have b2 := F2.binds (ps := ["entry", "number"]) fun _ _ _ _ _ _ us hl => match us, hl with | [_, _], _ => rfl
  have F3 := fun_mk (st := st_takes_never) l3 c3 k3
  have b3 := F3.binds (ps := ["begin", "end", "value"]) fun _ _ _ _ _ _ us hl => match us, hl with | [_, _, _], _ => rfl
  have F4 := fun_mk (st := st_takes_always) l4 c4 k4
  have b4 := F4.binds (ps := ["begin", "end", "value"]) fun _ _ _ _ _ _ us hl => match us, hl with | [_, _, _], _ => rfl
  have F5 := fun_mk (st := st_takes_begins) l5 c5 k5
  have b5 := F5.binds (ps := ["begin", "end", "value"]) fun _ _ _ _ _ _ us hl => match us, hl with | [_, _, _], _ => rfl
  have F6 := fun_mk (st := st_takes_ends) l6 c6 k6
  have b6 := F6.binds (ps := ["begin", "end", "value"]) fun _ _ _ _ _ _ us hl => match us, hl with | [_, _, _], _ => rfl
  have F7 := fun_mk (st := st_takes_cover) l7 c7 k7
  have b7 := F7.binds (ps := ["begin", "end", "value"]) fun _ _ _ _ _ _ us hl => match us, hl with | [_, _, _], _ => rfl
  have F8 := fun_mk (st := st_takes_inner) l8 c8 k8
  have b8 := F8.binds (ps := ["begin", "end", "value"]) fun _ _ _ _ _ _ us hl => match us, hl with | [_, _, _], _ => rfl
  have F9 := fun_mk (st := st_takes_least) l9 c9 k9
  have b9 := F9.binds (ps := ["begin", "end", "value"]) fun _ _ _ _ _ _ us hl => match us, hl with | [_, _, _], _ => rfl
  have F10 := fun_mk (st := st_takes_ranked) l10 c10 k10
  have b10 := F10.binds (ps := ["begin", "end", "value"]) fun _ _ _ _ _ _ us hl => match us, hl with | [_, _, _], _ => rfl
  have F11 := fun_mk (st := st_one_state) l11 c11 k11
  have b11 := F11.binds (ps := ["rule"]) fun _ _ _ _ _ _ us hl => match us, hl with | [_], _ => rfl
  have F12 := fun_mk (st := st_state_by_value) l12 c12 k12
  have b12 := F12.binds (ps := ["equal", "other"]) fun _ _ _ _ _ _ us hl => match us, hl with | [_, _], _ => rfl
  have F13 := fun_mk (st := st_vote_table) l13 c13 k13
  have b13 := F13.binds (ps := []) fun _ _ _ _ _ _ us hl => match us, hl with | [], _ => rfl
  have F14 := fun_mk (st := st_most_table) l14 c14 k14
  have b14 := F14.binds (ps := []) fun _ _ _ _ _ _ us hl => match us, hl with | [], _ => rfl
  have F15 := fun_mk (st := st_told_table) l15 c15 k15
  have b15 := F15.binds (ps := ["name"]) fun _ _ _ _ _ _ us hl => match us, hl with | [_], _ => rfl
  have F16 := fun_mk (st := st_followers_in) l16 c16 k16
  have b16 := F16.binds (ps := ["entries"]) fun _ _ _ _ _ _ us hl => match us, hl with | [_], _ => rfl
  have F17 := fun_mk (st := st_distances) l17 c17 k17
  have b17 := F17.binds (ps := ["table"]) fun _ _ _ _ _ _ us hl => match us, hl with | [_], _ => rfl
  have F18 := fun_mk (st := st_settled) l18 c18 k18
  have b18 := F18.binds (ps := ["table"]) fun _ _ _ _ _ _ us hl => match us, hl with | [_], _ => rfl
  have F19 := fun_mk (st := st__law_stream) l19 c19 k19
  have b19 := F19.binds (ps := ["_law_script"]) fun _ _ _ _ _ _ us hl => match us, hl with | [_], _ => rfl
  have F20 := fun_mk (st := st__law_draw) l20 c20 k20
  have b20 := F20.binds (ps := ["_law_stream_here", "_law_many"]) fun _ _ _ _ _ _ us hl => match us, hl with | [_, _], _ => rfl
  have F21 := fun_mk (st := st__law_pick) l21 c21 k21
  have b21 := F21.binds (ps := ["_law_stream_here", "_law_items"]) fun _ _ _ _ _ _ us hl => match us, hl with | [_, _], _ => rfl
  have F22 := fun_mk (st := st__law_names) l22 c22 k22
  have b22 := F22.binds (ps := []) fun _ _ _ _ _ _ us hl => match us, hl with | [], _ => rfl
  have F23 := fun_mk (st := st__law_table) l23 c23 k23
  have b23 := F23.binds (ps := ["_law_stream_here"]) fun _ _ _ _ _ _ us hl => match us, hl with | [_], _ => rfl
  have F24 := fun_mk (st := st__law_twin) l24 c24 k24
  have b24 := F24.binds (ps := ["_law_stream_here", "_law_table_here"]) fun _ _ _ _ _ _ us hl => match us, hl with | [_, _], _ => rfl
  have F25 := fun_mk (st := st__law_calm) l25 c25 k25
  have b25 := F25.binds (ps := ["_law_stream_here"]) fun _ _ _ _ _ _ us hl => match us, hl with | [_], _ => rfl
  have F26 := fun_mk (st := st__law_falling) l26 c26 k26
  have b26 := F26.binds (ps := ["_law_stream_here"]) fun _ _ _ _ _ _ us hl => match us, hl with | [_], _ => rfl
  have F27 := fun_mk (st := st__law_some) l27 c27 k27
  have b27 := F27.binds (ps := ["_law_stream_here"]) fun _ _ _ _ _ _ us hl => match us, hl with | [_], _ => rfl
  have F28 := fun_mk (st := st__law_is_change) l28 c28 k28
  have b28 := F28.binds (ps := ["_law_number", "_law_entry"]) fun _ _ _ _ _ _ us hl => match us, hl with | [_, _], _ => rfl
  have F29 := fun_mk (st := st__law_far) l29 c29 k29
  have b29 := F29.binds (ps := ["_law_table_here"]) fun _ _ _ _ _ _ us hl => match us, hl with | [_], _ => rfl
  have F30 := fun_mk (st := st_law) l30 c30 k30
  have b30 := F30.binds (ps := ["_law_script"]) fun _ _ _ _ _ _ us hl => match us, hl with | [_], _ => rfl
  have v_RULES : ∀ z y, ([("first", "takes_never"), ("last", "takes_always"), ("begins", "takes_begins"), ("ends", "takes_ends"), ("cover", "takes_cover"), ("inner", "takes_inner"), ("least", "takes_least"), ("ranked", "takes_ranked")] : List (Str × Str)).lookup z = some y → ∃ f, PySem.W.nsIn K p_RULES z = some (some (.ref f)) ∧ PySem.W.nsIn K mainGlobals y = some (some (.ref f)) := by
    intro z y h
    have h := lookup_mem h
    simp only [List.mem_cons, List.not_mem_nil, or_false, Prod.mk.injEq] at h
    rcases h with ⟨rfl, rfl⟩ | ⟨rfl, rfl⟩ | ⟨rfl, rfl⟩ | ⟨rfl, rfl⟩ | ⟨rfl, rfl⟩ | ⟨rfl, rfl⟩ | ⟨rfl, rfl⟩ | ⟨rfl, rfl⟩
    · exact ⟨_, e_RULES_0, a3⟩
    · exact ⟨_, e_RULES_1, a4⟩
    · exact ⟨_, e_RULES_2, a5⟩
    · exact ⟨_, e_RULES_3, a6⟩
    · exact ⟨_, e_RULES_4, a7⟩
    · exact ⟨_, e_RULES_5, a8⟩
    · exact ⟨_, e_RULES_6, a9⟩
    · exact ⟨_, e_RULES_7, a10⟩
  let T : Txt K mg w := ⟨PySem.W.mg_none_of X G z_abs, PySem.W.mg_none_of X G z_enumerate, PySem.W.mg_none_of X G z_int, PySem.W.mg_none_of X G z_isinstance, PySem.W.mg_none_of X G z_len, PySem.W.mg_none_of X G z_list, PySem.W.mg_none_of X G z_min, PySem.W.mg_none_of X G z_range, PySem.W.mg_none_of X G z_repr, PySem.W.mg_none_of X G z_str, PySem.W.mg_none_of X G z_tuple, ⟨⟨_, _, _, _, PySem.W.mg_of X G y_SIGNS, l_SIGNS, rfl, rfl, rfl, v_SIGNS.1, v_SIGNS.2⟩⟩, ⟨_, PySem.W.mg_of X G y_RULES, ⟨_, _, l_RULES, He.keysLit_of h_RULES, s_RULES⟩, v_RULES⟩, ⟨_, PySem.W.mg_of X G y_CHANGED⟩, ⟨_, _, F0, b0, PySem.W.mg_of X G a0, a0⟩, ⟨_, _, F1, b1, PySem.W.mg_of X G a1, a1⟩, ⟨_, _, F2, b2, PySem.W.mg_of X G a2, a2⟩, ⟨_, _, F3, b3, PySem.W.mg_of X G a3, a3⟩, ⟨_, _, F4, b4, PySem.W.mg_of X G a4, a4⟩, ⟨_, _, F5, b5, PySem.W.mg_of X G a5, a5⟩, ⟨_, _, F6, b6, PySem.W.mg_of X G a6, a6⟩, ⟨_, _, F7, b7, PySem.W.mg_of X G a7, a7⟩, ⟨_, _, F8, b8, PySem.W.mg_of X G a8, a8⟩, ⟨_, _, F9, b9, PySem.W.mg_of X G a9, a9⟩, ⟨_, _, F10, b10, PySem.W.mg_of X G a10, a10⟩, ⟨_, _, F11, b11, PySem.W.mg_of X G a11, a11⟩, ⟨_, _, F12, b12, PySem.W.mg_of X G a12, a12⟩, ⟨_, _, F13, b13, PySem.W.mg_of X G a13, a13⟩, ⟨_, _, F14, b14, PySem.W.mg_of X G a14, a14⟩, ⟨_, _, F15, b15, PySem.W.mg_of X G a15, a15⟩, ⟨_, _, F16, b16, PySem.W.mg_of X G a16, a16⟩, ⟨_, _, F17, b17, PySem.W.mg_of X G a17, a17⟩, ⟨_, _, F18, b18, PySem.W.mg_of X G a18, a18⟩, ⟨_, _, F19, b19, PySem.W.mg_of X G a19, a19⟩, ⟨_, _, F20, b20, PySem.W.mg_of X G a20, a20⟩, ⟨_, _, F21, b21, PySem.W.mg_of X G a21, a21⟩, ⟨_, _, F22, b22, PySem.W.mg_of X G a22, a22⟩, ⟨_, _, F23, b23, PySem.W.mg_of X G a23, a23⟩, ⟨_, _, F24, b24, PySem.W.mg_of X G a24, a24⟩, ⟨_, _, F25, b25, PySem.W.mg_of X G a25, a25⟩, ⟨_, _, F26, b26, PySem.W.mg_of X G a26, a26⟩, ⟨_, _, F27, b27, PySem.W.mg_of X G a27, a27⟩, ⟨_, _, F28, b28, PySem.W.mg_of X G a28, a28⟩, ⟨_, _, F29, b29, PySem.W.mg_of X G a29, a29⟩, ⟨_, _, F30, b30, PySem.W.mg_of X G a30, a30⟩⟩
  exact ⟨_, fun s v => .of_eq rfl, fun base _ _ => ok_law T⟩

end L3
open PySem PySem.W PyProof.Rows
set_option maxRecDepth 100000 in
set_option maxHeartbeats 0 in
theorem PySem.Challenge.cw_fragweave_k59_how_soon_values_change_holds : PySem.Challenge.rw_fragweave_k59_how_soon_values_change.Holds := by
  w_on; o_law; k_head; (case hw => w_witness2)
  k_fill
  refine L3.walk_ofG (l := PySem.Challenge.rw_fragweave_k59_how_soon_values_change) (n := 63) (k := 6) (x := "_law_script") (fc := L3.c_law) rfl (by decide) rfl ⟨rfl, by decide, by decide⟩ (by decide +kernel) (fun p => rfl) (fun w h Y => PySem.W.kIn_of Y) ?F (fun ns κ Ex hl h => ⟨hl, h⟩)
  case F =>
    intro w mg fa h KX G hmg
    refine' L3.all_mk KX G hmg ?a0 ?l0 ?c0 ?k0 ?a1 ?l1 ?c1 ?k1 ?a2 ?l2 ?c2 ?k2 ?a3 ?l3 ?c3 ?k3 ?a4 ?l4 ?c4 ?k4 ?a5 ?l5 ?c5 ?k5 ?a6 ?l6 ?c6 ?k6 ?a7 ?l7 ?c7 ?k7 ?a8 ?l8 ?c8 ?k8 ?a9 ?l9 ?c9 ?k9 ?a10 ?l10 ?c10 ?k10 ?a11 ?l11 ?c11 ?k11 ?a12 ?l12 ?c12 ?k12 ?a13 ?l13 ?c13 ?k13 ?a14 ?l14 ?c14 ?k14 ?a15 ?l15 ?c15 ?k15 ?a16 ?l16 ?c16 ?k16 ?a17 ?l17 ?c17 ?k17 ?a18 ?l18 ?c18 ?k18 ?a19 ?l19 ?c19 ?k19 ?a20 ?l20 ?c20 ?k20 ?a21 ?l21 ?c21 ?k21 ?a22 ?l22 ?c22 ?k22 ?a23 ?l23 ?c23 ?k23 ?a24 ?l24 ?c24 ?k24 ?a25 ?l25 ?c25 ?k25 ?a26 ?l26 ?c26 ?k26 ?a27 ?l27 ?c27 ?k27 ?a28 ?l28 ?c28 ?k28 ?a29 ?l29 ?c29 ?k29 ?a30 ?l30 ?c30 ?k30 ?z_abs ?z_enumerate ?z_int ?z_isinstance ?z_len ?z_list ?z_min ?z_range ?z_repr ?z_str ?z_tuple ?y_SIGNS ?l_SIGNS ?v_SIGNS ?y_RULES ?l_RULES ?h_RULES ?s_RULES ?e_RULES_0 ?e_RULES_1 ?e_RULES_2 ?e_RULES_3 ?e_RULES_4 ?e_RULES_5 ?e_RULES_6 ?e_RULES_7 ?y_CHANGED
    (case a0 => k_is)
    (case l0 => k_is)
    (case c0 => k_is)
    (case k0 => k_is)
    (case a1 => k_is)
    (case l1 => k_is)
    (case c1 => k_is)
    (case k1 => k_is)
    (case a2 => k_is)
    (case l2 => k_is)
    (case c2 => k_is)
    (case k2 => k_is)
    (case a3 => k_is)
    (case l3 => k_is)
    (case c3 => k_is)
    (case k3 => k_is)
    (case a4 => k_is)
    (case l4 => k_is)
    (case c4 => k_is)
    (case k4 => k_is)
    (case a5 => k_is)
    (case l5 => k_is)
    (case c5 => k_is)
    (case k5 => k_is)
    (case a6 => k_is)
    (case l6 => k_is)
    (case c6 => k_is)
    (case k6 => k_is)
    (case a7 => k_is)
    (case l7 => k_is)
    (case c7 => k_is)
    (case k7 => k_is)
    (case a8 => k_is)
    (case l8 => k_is)
    (case c8 => k_is)
    (case k8 => k_is)
    (case a9 => k_is)
    (case l9 => k_is)
    (case c9 => k_is)
    (case k9 => k_is)
    (case a10 => k_is)
    (case l10 => k_is)
    (case c10 => k_is)
    (case k10 => k_is)
    (case a11 => k_is)
    (case l11 => k_is)
    (case c11 => k_is)
    (case k11 => k_is)
    (case a12 => k_is)
    (case l12 => k_is)
    (case c12 => k_is)
    (case k12 => k_is)
    (case a13 => k_is)
    (case l13 => k_is)
    (case c13 => k_is)
    (case k13 => k_is)
    (case a14 => k_is)
    (case l14 => k_is)
    (case c14 => k_is)
    (case k14 => k_is)
    (case a15 => k_is)
    (case l15 => k_is)
    (case c15 => k_is)
    (case k15 => k_is)
    (case a16 => k_is)
    (case l16 => k_is)
    (case c16 => k_is)
    (case k16 => k_is)
    (case a17 => k_is)
    (case l17 => k_is)
    (case c17 => k_is)
    (case k17 => k_is)
    (case a18 => k_is)
    (case l18 => k_is)
    (case c18 => k_is)
    (case k18 => k_is)
    (case a19 => k_is)
    (case l19 => k_is)
    (case c19 => k_is)
    (case k19 => k_is)
    (case a20 => k_is)
    (case l20 => k_is)
    (case c20 => k_is)
    (case k20 => k_is)
    (case a21 => k_is)
    (case l21 => k_is)
    (case c21 => k_is)
    (case k21 => k_is)
    (case a22 => k_is)
    (case l22 => k_is)
    (case c22 => k_is)
    (case k22 => k_is)
    (case a23 => k_is)
    (case l23 => k_is)
    (case c23 => k_is)
    (case k23 => k_is)
    (case a24 => k_is)
    (case l24 => k_is)
    (case c24 => k_is)
    (case k24 => k_is)
    (case a25 => k_is)
    (case l25 => k_is)
    (case c25 => k_is)
    (case k25 => k_is)
    (case a26 => k_is)
    (case l26 => k_is)
    (case c26 => k_is)
    (case k26 => k_is)
    (case a27 => k_is)
    (case l27 => k_is)
    (case c27 => k_is)
    (case k27 => k_is)
    (case a28 => k_is)
    (case l28 => k_is)
    (case c28 => k_is)
    (case k28 => k_is)
    (case a29 => k_is)
    (case l29 => k_is)
    (case c29 => k_is)
    (case k29 => k_is)
    (case a30 => k_is)
    (case l30 => k_is)
    (case c30 => k_is)
    (case k30 => k_is)
    (case z_abs => k_is)
    (case z_enumerate => k_is)
    (case z_int => k_is)
    (case z_isinstance => k_is)
    (case z_len => k_is)
    (case z_list => k_is)
    (case z_min => k_is)
    (case z_range => k_is)
    (case z_repr => k_is)
    (case z_str => k_is)
    (case z_tuple => k_is)
    (case y_SIGNS => k_is)
    (case l_SIGNS => k_is)
    (case v_SIGNS => exact ⟨by decide, .cons ⟨_, rfl⟩ (.cons ⟨_, rfl⟩ (.cons ⟨_, rfl⟩ (.nil)))⟩)
    (case y_RULES => k_is)
    (case l_RULES => k_is)
    (case h_RULES => rfl)
    (case s_RULES => rfl)
    (case e_RULES_0 => k_is)
    (case e_RULES_1 => k_is)
    (case e_RULES_2 => k_is)
    (case e_RULES_3 => k_is)
    (case e_RULES_4 => k_is)
    (case e_RULES_5 => k_is)
    (case e_RULES_6 => k_is)
    (case e_RULES_7 => k_is)
    (case y_CHANGED => k_is)
