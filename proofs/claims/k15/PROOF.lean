import PyProof.Rows.All
import Wide.All
import OpenK.AllK
import Wide.FinOn
import PySem.Challenge.RW_halfread_k15_codes_by_names
import HandS.Base
import HandS.Call
import HandS.List
import HandS.Comp
import HandS.Star
import HandS.Exc
import HandS.ExcOwn
import HandS.Words
import HandS.Iter
import HandS.More
import HandS.WordsExc
import HandS.Lambda
import HandS.TupAny
import HandS.TupMul
import HandS.Deep
import HandS.Text
import HandS.Conv
import HandS.Zip
import HandS.Wide
import HandS.FStr
import HandS.Style
import HandS.TryOnly
import HandS.TupSets
import HandS.IsInst
import HandS.Flow
import KE.KTupSum
import HandS.Property
import HandS.CallLocal
import KE.GoesEnum
import KE.GoesMore
import HandS.DictComp
import HandS.Small
import HandS.RaiseMore
import OpenK.KOps
import OpenK.KMeth
import HandS.NoneIn
import PyProof.ReprRoads
import HandS.SetBool
import HandS.Strs
import HandS.ClsMeth
import HandS.SortKw
import KE.DataMinMax
import KE.KOpsOwn
import HandS.Dict
import HandS.Ends
import HandS.ForMost
section T0
set_option Elab.async false
set_option linter.all false
set_option maxRecDepth 100000
namespace EV
open PySem PySem.Spec PyProof.Rows L2

/-! ### room, and nothing whose repr is being made -/
structure Room (k : Nat) (A : Around) : Prop where
  r : L2.Room k A
  g : A.guards = some []
theorem Room.mono {j k : Nat} {A : Around} (r : Room k A) (h : j ≤ k) : Room j A := ⟨r.r.mono h, r.g⟩
theorem Room.deeper {k : Nat} {A : Around} (r : Room (k + 1) A) (env : Env) : Room k (A.deeper env) := ⟨r.r.deeper env, r.g⟩
theorem Room.in1 {k : Nat} {A : Around} (r : Room (k + 1) A) : Room k A.in1 := ⟨r.r.in1, r.g⟩
theorem Room.make {k : Nat} {A : Around} (r : Room (k + 1) A) (C : Addr) (us : List Value) (kw : List (Str × Value)) : Room k (A.under (.builtin "type.__call__" ⟨.ref C :: us, kw⟩)) :=
  ⟨r.r.make C us kw, by
    have e : (A.under (.builtin "type.__call__" ⟨.ref C :: us, kw⟩)).guards = A.guards := by
      have := r.g
      obtain ⟨hd, d, fr, gs, u⟩ := A
      simp only at this
      subst this
      first | rfl | simp [Around.under, Code.guards, Code.isGuard, guardIds, pushGuards]
    rw [e]; exact r.g⟩
theorem Room.un {k : Nat} {A : Around} (r : Room k A) : A.units + 16 * k + 200 < cLine := r.r.un
theorem Room.dp {k : Nat} {A : Around} (r : Room k A) : A.depth + 3 * k + 5 < recursionLimit := r.r.dp
theorem Room.hd {k : Nat} {A : Around} (r : Room k A) : A.handled = none := r.r.hd
theorem Room.units {k : Nat} {A : Around} (r : Room k A) : A.units + 64 < cLine := r.r.units
theorem Room.depth {k : Nat} {A : Around} (r : Room k A) : A.depth < recursionLimit := r.r.depth
/-- a def, called with such room -/
def FnR (P : Program) (w : World) (K : PySem.W.Frag) (mg : Str → Option Value) (base : Heap) (C : CXT) (k : Nat) (f : Addr) (sp : Sp) : Prop :=
  ∀ (A : Around) (outer : List Env) (s : Shared) (H : Hp) (us : List Value) (vs : List V) (Q : VK) (E : XK), Room k A → Env0 P w K mg base A outer s H → Vals vs us → sp vs H Q E → codeAny (model P w) A (.call (.ref f) ⟨us, []⟩) (CR C outer P w H s Q E) s
section
variable {P : Program} {w : World} {K : PySem.W.Frag} {mg : Str → Option Value} {base : Heap} {C : CXT} {j k : Nat} {f : Addr} {sp sp' : Sp}
theorem FnR.mono (F : FnR P w K mg base C j f sp) (h : j ≤ k) : FnR P w K mg base C k f sp := fun A outer s H us vs Q E hr => F A outer s H us vs Q E (hr.mono h)
theorem FnR.imp (F : FnR P w K mg base C k f sp) (h : ∀ vs H Q E, sp' vs H Q E → sp vs H Q E) : FnR P w K mg base C k f sp' := fun A outer s H us vs Q E hr e r z => F A outer s H us vs Q E hr e r (h vs H Q E z)
end

/-! ### data of the evaluator -/
inductive P where
  | non | bl (b : Bool) | int (i : Int) | str (x : Str)
  | tup (ds : List P) | lst (ds : List P)
  | ins (c : Nat) (fs : List P)
  | dct (ks : List (List Int)) (vs : List P)
  | scr (ds : List P)
  | fn (i : Nat)
  | mem (c : Nat) (fs : List P)
inductive Vl where
  | p (d : P) | ref (n : Nat)
/-- tracked addresses, by the heap's places; no: those that no data refers to (the tracked ones among them) -/
structure Trk where
  tk : List Addr
  mm : List (Addr × Nat × List P)
  no : List Addr
  sub : ∀ a ∈ tk ++ mm.map (·.1), a ∈ no
  inj : ∀ m ∈ mm, ∀ m' ∈ mm, m.1 = m'.1 → m = m'
/-- what may change: the tracked objects, and what is kept for later (mm: where, of which class, of which fields) -/
abbrev Trk.ch (M : Trk) : List Addr := M.tk ++ M.mm.map (·.1)
theorem Trk.subT (M : Trk) : ∀ a ∈ M.tk, a ∈ M.no := fun a h => M.sub a (List.mem_append_left _ h)
theorem Trk.subM (M : Trk) : ∀ m ∈ M.mm, m.1 ∈ M.no := fun m h => M.sub m.1 (List.mem_append_right _ (List.mem_map_of_mem h))
theorem Trk.notT {M : Trk} {a : Addr} (h : a ∉ M.ch) : a ∉ M.tk := fun z => h (List.mem_append_left _ z)
theorem Trk.inT {M : Trk} {a : Addr} (h : a ∈ M.tk) : a ∈ M.ch := List.mem_append_left _ h
theorem Trk.inM {M : Trk} {m : Addr × Nat × List P} (h : m ∈ M.mm) : m.1 ∈ M.ch := List.mem_append_right _ (List.mem_map_of_mem h)
/-- the program's classes by number: their addresses, their instances' fields -/
structure Tb where
  cls : Nat → Addr
  nms : Nat → List Str
  exc : Nat → Value
  xnm : Nat → List Str
  fns : Nat → Addr
  memo : Nat → List P → Int → Int → P

section
variable (T : Tb) (K : PySem.W.Frag)
def TupM (M : Trk) (H : Hp) (a : Addr) (xs : List V) : Prop := H a = some (.tup xs) ∧ a ∉ M.no
def LstM (M : Trk) (H : Hp) (a : Addr) (xs : List V) : Prop :=
  (Rd H a (.lst xs) ∧ a ∉ M.no) ∨ ∃ (o : Obj) (its : Array Value) (n : Nat), K.lookup a = some o ∧ o.cls = .type "list" ∧ o.dict = none ∧ o.data = .seq its n ∧ its.size ≤ sizeLine ∧ Vals xs its.toList
mutual
inductive Rp (M : Trk) (H : Hp) : P → V → Prop
  | non : Rp M H .non .non
  | bl (b : Bool) : Rp M H (.bl b) (.bl b)
  | int (i : Int) : Rp M H (.int i) (.int i)
  | str (x : Str) : Rp M H (.str x) (.str x)
  | fn (i : Nat) : Rp M H (.fn i) (.ref (T.fns i))
  | tup {a : Addr} {xs : List V} {ds : List P} : TupM M H a xs → RpA M H ds xs → Rp M H (.tup ds) (.ref a)
  | lst {a : Addr} {xs : List V} {ds : List P} : H a = some (.lst xs) → a ∉ M.no → RpA M H ds xs → Rp M H (.lst ds) (.ref a)
  | ins {a dx : Addr} {c : Nat} {fs : List P} {gs : List (Str × V)} : H a = some (.ins (T.cls c) dx gs) → a ∉ M.no → gs.map (·.1) = (T.nms c).take fs.length → RpA M H fs (gs.map (·.2)) → Rp M H (.ins c fs) (.ref a)
  | dct {a : Addr} {ks : List (List Int)} {vs : List P} {kvs : List (List Key × V)} : H a = some (.dT kvs) → a ∉ M.no → kvs.map (·.1) = ks.map (fun l => l.map Sum.inl) → RpA M H vs (kvs.map (·.2)) → Rp M H (.dct ks vs) (.ref a)
  | scr {a : Addr} {xs : List V} {ds : List P} : LstM K M H a xs → RpA M H ds xs → Rp M H (.scr ds) (.ref a)
  | mem {a : Addr} {c : Nat} {fs : List P} : (a, c, fs) ∈ M.mm → Rp M H (.mem c fs) (.ref a)
inductive RpA (M : Trk) (H : Hp) : List P → List V → Prop
  | nil : RpA M H [] []
  | cons {d : P} {ds : List P} {v : V} {vs : List V} : Rp M H d v → RpA M H ds vs → RpA M H (d :: ds) (v :: vs)
end
inductive RV (M : Trk) (H : Hp) : Vl → V → Prop
  | p {d : P} {v : V} : Rp T K M H d v → RV M H (.p d) v
  | ref {n : Nat} {a : Addr} : M.tk[n]? = some a → RV M H (.ref n) (.ref a)
inductive RVA (M : Trk) (H : Hp) : List Vl → List V → Prop
  | nil : RVA M H [] []
  | cons {d : Vl} {ds : List Vl} {v : V} {vs : List V} : RV T K M H d v → RVA M H ds vs → RVA M H (d :: ds) (v :: vs)
/-- a tracked object -/
inductive Cell (M : Trk) (H : Hp) (a : Addr) : P → Prop
  | lst {xs : List V} {ds : List P} : H a = some (.lst xs) → RpA T K M H ds xs → Cell M H a (.lst ds)
  | ins {dx : Addr} {c : Nat} {fs : List P} {gs : List (Str × V)} : H a = some (.ins (T.cls c) dx gs) → gs.map (·.1) = (T.nms c).take fs.length → RpA T K M H fs (gs.map (·.2)) → Cell M H a (.ins c fs)
end

/-- from one heap to a later one: the tracked addresses grow, what is not tracked stays -/
structure Ext (M : Trk) (H : Hp) (M' : Trk) (H' : Hp) : Prop where
  pre : ∃ m, M'.tk = M.tk ++ m ∧ ∀ a ∈ m, H a = none
  nos : ∀ a ∈ M.no, a ∈ M'.no
  new : ∀ a ∈ M'.no, a ∉ M.no → H a = none
  keep : ∀ a o, H a = some o → a ∉ M.ch → H' a = some o
  live : ∀ a, H' a = none → H a = none
  mms : ∀ m ∈ M.mm, m ∈ M'.mm
  mnew : ∀ m ∈ M'.mm, m ∈ M.mm ∨ H m.1 = none
theorem Ext.refl {M : Trk} {H : Hp} : Ext M H M H := ⟨⟨[], by simp⟩, fun _ h => h, fun a h1 h2 => absurd h1 h2, fun _ _ h _ => h, fun _ h => h, fun _ h => h, fun _ h => .inl h⟩
theorem Ext.out {M M' : Trk} {H H' : Hp} (e : Ext M H M' H') {a : Addr} {o : HO} (h : H a = some o) (n : a ∉ M.no) : a ∉ M'.no := fun h1 => by
  have q := e.new a h1 n
  rw [h] at q; cases q
theorem Ext.outT {M M' : Trk} {H H' : Hp} (e : Ext M H M' H') {a : Addr} {o : HO} (h : H a = some o) (n : a ∉ M.ch) : a ∉ M'.ch := fun h1 => by
  rcases List.mem_append.mp h1 with h1 | h1
  · obtain ⟨m, e1, g1⟩ := e.pre
    rw [e1] at h1
    rcases List.mem_append.mp h1 with z | z
    · exact n (Trk.inT z)
    · have q := g1 a z
      rw [h] at q; cases q
  · obtain ⟨m, hm, rfl⟩ := List.mem_map.mp h1
    rcases e.mnew m hm with z | z
    · exact n (Trk.inM z)
    · rw [h] at z; cases z
/-- what data may refer to stays -/
theorem Ext.kept {M M' : Trk} {H H' : Hp} (e : Ext M H M' H') {a : Addr} {o : HO} (h : H a = some o) (n : a ∉ M.no) : H' a = some o := e.keep a o h fun z => n (M.sub a z)
theorem Ext.trans {M M' M'' : Trk} {H H' H'' : Hp} (e : Ext M H M' H') (f : Ext M' H' M'' H'') : Ext M H M'' H'' where
  pre := by
    obtain ⟨m, e1, g1⟩ := e.pre
    obtain ⟨m', e2, g2⟩ := f.pre
    refine ⟨m ++ m', by rw [e2, e1, List.append_assoc], fun a ha => ?_⟩
    rcases List.mem_append.mp ha with z | z
    · exact g1 a z
    · exact e.live a (g2 a z)
  nos := fun a h => f.nos a (e.nos a h)
  new := fun a h1 h2 => by
    by_cases h3 : a ∈ M'.no
    · exact e.new a h3 h2
    · exact e.live a (f.new a h1 h3)
  keep := fun a o h n => f.keep a o (e.keep a o h n) (e.outT h n)
  live := fun a h => e.live a (f.live a h)
  mms := fun m h => f.mms m (e.mms m h)
  mnew := fun m h => by
    rcases f.mnew m h with z | z
    · exact e.mnew m z
    · exact .inr (e.live _ z)
theorem Ext.get {M M' : Trk} {H H' : Hp} (e : Ext M H M' H') {n : Nat} {a : Addr} (h : M.tk[n]? = some a) : M'.tk[n]? = some a := by
  obtain ⟨m, e1, _⟩ := e.pre
  rw [e1, List.getElem?_append_left (List.getElem?_eq_some_iff.mp h).1]; exact h
section
variable {T : Tb} {K : PySem.W.Frag} {M M' : Trk} {H H' : Hp}
theorem Ext.rd (e : Ext M H M' H') {a : Addr} {u : HO} (h : Rd H a u) (n : a ∉ M.no) : Rd H' a u ∧ a ∉ M'.no := by
  rcases h with h | ⟨o, h⟩
  · exact ⟨.inl (e.kept h n), e.out h n⟩
  · exact ⟨.inr ⟨o, e.kept h n⟩, e.out h n⟩
theorem TupM.ext {a : Addr} {xs : List V} (h : TupM M H a xs) (e : Ext M H M' H') : TupM M' H' a xs := ⟨e.kept h.1 h.2, e.out h.1 h.2⟩
theorem LstM.ext {a : Addr} {xs : List V} (h : LstM K M H a xs) (e : Ext M H M' H') : LstM K M' H' a xs := by
  rcases h with h | h
  · exact .inl (e.rd h.1 h.2)
  · exact .inr h
/-- what data may refer to stays, and what is tracked -/
structure ExtB (M : Trk) (H : Hp) (M' : Trk) (H' : Hp) : Prop where
  get : ∀ (n : Nat) (a : Addr), M.tk[n]? = some a → M'.tk[n]? = some a
  kept : ∀ a o, H a = some o → a ∉ M.no → H' a = some o
  out : ∀ a o, H a = some o → a ∉ M.no → a ∉ M'.no
  mms : ∀ m ∈ M.mm, m ∈ M'.mm
theorem Ext.b (e : Ext M H M' H') : ExtB M H M' H' := ⟨fun _ _ h => e.get h, fun _ _ h n => e.kept h n, fun _ _ h n => e.out h n, e.mms⟩
theorem ExtB.rd (e : ExtB M H M' H') {a : Addr} {u : HO} (h : Rd H a u) (n : a ∉ M.no) : Rd H' a u ∧ a ∉ M'.no := by
  rcases h with h | ⟨o, h⟩
  · exact ⟨.inl (e.kept _ _ h n), e.out _ _ h n⟩
  · exact ⟨.inr ⟨o, e.kept _ _ h n⟩, e.out _ _ h n⟩
theorem TupM.extB {a : Addr} {xs : List V} (h : TupM M H a xs) (e : ExtB M H M' H') : TupM M' H' a xs := ⟨e.kept _ _ h.1 h.2, e.out _ _ h.1 h.2⟩
theorem LstM.extB {a : Addr} {xs : List V} (h : LstM K M H a xs) (e : ExtB M H M' H') : LstM K M' H' a xs := by
  rcases h with h | h
  · exact .inl (e.rd h.1 h.2)
  · exact .inr h
mutual
theorem Rp.extB (e : ExtB M H M' H') : ∀ {d : P} {v : V}, Rp T K M H d v → Rp T K M' H' d v
  | _, _, .non => .non
  | _, _, .bl b => .bl b
  | _, _, .int i => .int i
  | _, _, .str x => .str x
  | _, _, .fn i => .fn i
  | _, _, .tup h r => .tup (h.extB e) (RpA.extB e r)
  | _, _, .lst h n r => .lst (e.kept _ _ h n) (e.out _ _ h n) (RpA.extB e r)
  | _, _, .ins h n q r => .ins (e.kept _ _ h n) (e.out _ _ h n) q (RpA.extB e r)
  | _, _, .dct h n q r => .dct (e.kept _ _ h n) (e.out _ _ h n) q (RpA.extB e r)
  | _, _, .scr h r => .scr (h.extB e) (RpA.extB e r)
  | _, _, .mem h => .mem (e.mms _ h)
theorem RpA.extB (e : ExtB M H M' H') : ∀ {ds : List P} {vs : List V}, RpA T K M H ds vs → RpA T K M' H' ds vs
  | _, _, .nil => .nil
  | _, _, .cons h r => .cons (Rp.extB e h) (RpA.extB e r)
end
theorem Rp.ext (e : Ext M H M' H') {d : P} {v : V} (r : Rp T K M H d v) : Rp T K M' H' d v := r.extB e.b
theorem RpA.ext (e : Ext M H M' H') {ds : List P} {vs : List V} (r : RpA T K M H ds vs) : RpA T K M' H' ds vs := r.extB e.b
theorem RV.ext (e : Ext M H M' H') {d : Vl} {v : V} (h : RV T K M H d v) : RV T K M' H' d v := by
  cases h with
  | p h => exact .p (h.ext e)
  | ref h => exact .ref (e.get h)
theorem RVA.ext (e : Ext M H M' H') : ∀ {ds : List Vl} {vs : List V}, RVA T K M H ds vs → RVA T K M' H' ds vs
  | _, _, .nil => .nil
  | _, _, .cons h r => .cons (h.ext e) (RVA.ext e r)
theorem RpA.length : ∀ {ds : List P} {vs : List V}, RpA T K M H ds vs → ds.length = vs.length
  | _, _, .nil => rfl
  | _, _, .cons _ r => by simp [RpA.length r]
theorem RVA.length : ∀ {ds : List Vl} {vs : List V}, RVA T K M H ds vs → ds.length = vs.length
  | _, _, .nil => rfl
  | _, _, .cons _ r => by simp [RVA.length r]
theorem RpA.get : ∀ {ds : List P} {vs : List V} {i : Nat} {d : P}, RpA T K M H ds vs → ds[i]? = some d → ∃ v, vs[i]? = some v ∧ Rp T K M H d v
  | _, _, _, _, .nil, h => by simp at h
  | _, _, 0, _, .cons h r, e => by simp at e; subst e; exact ⟨_, rfl, h⟩
  | _, _, i + 1, d, .cons h r, e => by
    obtain ⟨v, q, z⟩ := RpA.get (i := i) (d := d) r (by simpa using e)
    exact ⟨v, by simpa using q, z⟩
theorem RpA.get' : ∀ {ds : List P} {vs : List V} {i : Nat} {v : V}, RpA T K M H ds vs → vs[i]? = some v → ∃ d, ds[i]? = some d ∧ Rp T K M H d v
  | _, _, _, _, .nil, h => by simp at h
  | _, _, 0, _, .cons h r, e => by simp at e; subst e; exact ⟨_, rfl, h⟩
  | _, _, i + 1, d, .cons h r, e => by
    obtain ⟨v, q, z⟩ := RpA.get' (i := i) (v := d) r (by simpa using e)
    exact ⟨v, by simpa using q, z⟩
theorem RpA.append : ∀ {ds es : List P} {vs ws : List V}, RpA T K M H ds vs → RpA T K M H es ws → RpA T K M H (ds ++ es) (vs ++ ws)
  | _, _, _, _, .nil, s => s
  | _, _, _, _, .cons h r, s => .cons h (RpA.append r s)
theorem RpA.drop : ∀ {ds : List P} {vs : List V} (n : Nat), RpA T K M H ds vs → RpA T K M H (ds.drop n) (vs.drop n)
  | _, _, 0, r => r
  | _, _, _ + 1, .nil => .nil
  | _, _, n + 1, .cons _ r => RpA.drop n r
theorem RpA.take : ∀ {ds : List P} {vs : List V} (n : Nat), RpA T K M H ds vs → RpA T K M H (ds.take n) (vs.take n)
  | _, _, 0, _ => .nil
  | _, _, _ + 1, .nil => .nil
  | _, _, n + 1, .cons h r => .cons h (RpA.take n r)
theorem RpA.set {d : P} {v : V} (h : Rp T K M H d v) : ∀ {ds : List P} {vs : List V} (n : Nat), RpA T K M H ds vs → RpA T K M H (ds.set n d) (vs.set n v)
  | _, _, _, .nil => .nil
  | _, _, 0, .cons _ r => .cons h r
  | _, _, n + 1, .cons q r => .cons q (RpA.set h n r)
theorem RpA.erase : ∀ {ds : List P} {vs : List V} (n : Nat), RpA T K M H ds vs → RpA T K M H (ds.eraseIdx n) (vs.eraseIdx n)
  | _, _, _, .nil => .nil
  | _, _, 0, .cons _ r => r
  | _, _, n + 1, .cons q r => .cons q (RpA.erase n r)
theorem RpA.reverse : ∀ {ds : List P} {vs : List V}, RpA T K M H ds vs → RpA T K M H ds.reverse vs.reverse
  | _, _, .nil => .nil
  | _, _, .cons h r => by
    rw [List.reverse_cons, List.reverse_cons]
    exact RpA.append (RpA.reverse r) (.cons h .nil)
theorem RpA.ints : ∀ {ns : List Int} {vs : List V}, RpA T K M H (ns.map P.int) vs → vs = ns.map V.int
  | [], _, .nil => rfl
  | _ :: _, _, .cons (.int _) r => by rw [RpA.ints r]; rfl
theorem RpA.of_ints : ∀ (ns : List Int), RpA T K M H (ns.map P.int) (ns.map V.int)
  | [] => .nil
  | _ :: ns => .cons (.int _) (RpA.of_ints ns)
theorem TupM.sqT {a : Addr} {xs : List V} (h : TupM M H a xs) : SqT K H a xs := .inl (.of h.1)
theorem LstM.sqL {a : Addr} {xs : List V} (h : LstM K M H a xs) : SqL K H a xs := by
  rcases h with h | h
  · exact .inl h.1
  · exact .inr h

/-! an object that no data refers to is changed -/
theorem Rd.barred {a b : Addr} {u o : HO} (h : Rd H a u) (n : a ≠ b) : Rd (upd H b o) a u := by
  rcases h with h | ⟨z, h⟩
  · exact .inl (by rw [upd_ne n]; exact h)
  · exact .inr ⟨z, by rw [upd_ne n]; exact h⟩
theorem ne_bar {a b : Addr} (hb : b ∈ M.no) (n : a ∉ M.no) : a ≠ b := fun z => n (by rw [z]; exact hb)
mutual
theorem Rp.barred {b : Addr} {o : HO} (hb : b ∈ M.no) : ∀ {d : P} {v : V}, Rp T K M H d v → Rp T K M (upd H b o) d v
  | _, _, .non => .non
  | _, _, .bl b => .bl b
  | _, _, .int i => .int i
  | _, _, .str x => .str x
  | _, _, .fn i => .fn i
  | _, _, .tup h r => .tup ⟨by rw [upd_ne (ne_bar hb h.2)]; exact h.1, h.2⟩ (RpA.barred hb r)
  | _, _, .lst h n r => .lst (by rw [upd_ne (ne_bar hb n)]; exact h) n (RpA.barred hb r)
  | _, _, .ins h n q r => .ins (by rw [upd_ne (ne_bar hb n)]; exact h) n q (RpA.barred hb r)
  | _, _, .dct h n q r => .dct (by rw [upd_ne (ne_bar hb n)]; exact h) n q (RpA.barred hb r)
  | _, _, .scr h r => .scr (h.elim (fun z => .inl ⟨Rd.barred z.1 (ne_bar hb z.2), z.2⟩) .inr) (RpA.barred hb r)
  | _, _, .mem h => .mem h
theorem RpA.barred {b : Addr} {o : HO} (hb : b ∈ M.no) : ∀ {ds : List P} {vs : List V}, RpA T K M H ds vs → RpA T K M (upd H b o) ds vs
  | _, _, .nil => .nil
  | _, _, .cons h r => .cons (Rp.barred hb h) (RpA.barred hb r)
end

/-! weaker tracking -/
mutual
theorem Rp.less (hs : ∀ a ∈ M'.no, a ∈ M.no) (hm : ∀ m ∈ M.mm, m ∈ M'.mm) : ∀ {d : P} {v : V}, Rp T K M H d v → Rp T K M' H d v
  | _, _, .non => .non
  | _, _, .bl b => .bl b
  | _, _, .int i => .int i
  | _, _, .str x => .str x
  | _, _, .fn i => .fn i
  | _, _, .tup h r => .tup ⟨h.1, fun z => h.2 (hs _ z)⟩ (RpA.less hs hm r)
  | _, _, .lst h n r => .lst h (fun z => n (hs _ z)) (RpA.less hs hm r)
  | _, _, .ins h n q r => .ins h (fun z => n (hs _ z)) q (RpA.less hs hm r)
  | _, _, .dct h n q r => .dct h (fun z => n (hs _ z)) q (RpA.less hs hm r)
  | _, _, .scr h r => .scr (h.elim (fun z => .inl ⟨z.1, fun y => z.2 (hs _ y)⟩) .inr) (RpA.less hs hm r)
  | _, _, .mem h => .mem (hm _ h)
theorem RpA.less (hs : ∀ a ∈ M'.no, a ∈ M.no) (hm : ∀ m ∈ M.mm, m ∈ M'.mm) : ∀ {ds : List P} {vs : List V}, RpA T K M H ds vs → RpA T K M' H ds vs
  | _, _, .nil => .nil
  | _, _, .cons h r => .cons (Rp.less hs hm h) (RpA.less hs hm r)
end
end

/-- what is kept for later, by two small ints, is right -/
structure MemOk (T : Tb) (K : PySem.W.Frag) (M : Trk) (H : Hp) (c : Nat) (fs : List P) (kvs : List (List Key × V)) : Prop where
  nd : (kvs.map (·.1)).Nodup
  ok : ∀ kv ∈ kvs, ∃ i j : Int, kv.1 = [Sum.inl i, Sum.inl j] ∧ 0 ≤ i ∧ i < 64 ∧ 0 ≤ j ∧ j < 64 ∧ Rp T K M H (T.memo c fs i j) kv.2
/-- the tracked heap -/
structure HR (T : Tb) (K : PySem.W.Frag) (M : Trk) (H : Hp) (h : List P) : Prop where
  len : M.tk.length = h.length
  nd : M.tk.Nodup
  pos : ∀ a ∈ M.no, H a ≠ none
  at' : ∀ (n : Nat) (a : Addr) (p : P), M.tk[n]? = some a → h[n]? = some p → Cell T K M H a p
  mem : ∀ m ∈ M.mm, ∃ kvs, H m.1 = some (.dT kvs) ∧ MemOk T K M H m.2.1 m.2.2 kvs
/-- the slots -/
abbrev Sl := List (Option Vl)
structure SR (T : Tb) (K : PySem.W.Frag) (M : Trk) (H : Hp) (S : Sl) (σ : L2.St) : Prop where
  len : S.length = σ.length
  at' : ∀ (i : Nat) (v : Vl), S[i]? = some (some v) → ∃ x, σ[i]? = some (some x) ∧ RV T K M H v x
theorem SR.ext {T : Tb} {K : PySem.W.Frag} {M M' : Trk} {H H' : Hp} {S : Sl} {σ : L2.St} (s : SR T K M H S σ) (e : Ext M H M' H') : SR T K M' H' S σ :=
  ⟨s.len, fun i v h => let ⟨x, a, b⟩ := s.at' i v h; ⟨x, a, b.ext e⟩⟩
theorem SR.set {T : Tb} {K : PySem.W.Frag} {M : Trk} {H : Hp} {S : Sl} {σ : L2.St} (s : SR T K M H S σ) {v : Vl} {x : V} (r : RV T K M H v x) (i : Nat) : SR T K M H (S.set i (some v)) (σ.set i (some x)) := by
  refine ⟨by simp [s.len], fun j u h => ?_⟩
  by_cases e : i = j
  · subst e
    have hl : i < S.length := by
      have := (List.getElem?_eq_some_iff.mp h).1
      simpa using this
    rw [List.getElem?_set_self hl] at h
    cases h
    exact ⟨x, by rw [List.getElem?_set_self (by rw [← s.len]; exact hl)], r⟩
  · rw [List.getElem?_set_ne e] at h
    obtain ⟨y, a, b⟩ := s.at' j u h
    exact ⟨y, by rw [List.getElem?_set_ne e]; exact a, b⟩

/-! ### results -/
abbrev Hs := List P
/-- what is raised: the class by its number, the values of its fields -/
structure Exn where
  c : Nat
  fs : List V
abbrev Rs (α : Type) := Option (Except Exn α × Hs)
abbrev ME := Sl → Hs → Rs Vl
abbrev MA := Sl → Hs → Rs (List Vl)
abbrev MT := Sl → Hs → Rs Bool
def bnd {α β : Type} (r : Rs α) (k : α → Hs → Rs β) : Rs β :=
  match r with
  | none => none
  | some (.error c, h) => some (.error c, h)
  | some (.ok v, h) => k v h
def ret {α : Type} (v : α) (h : Hs) : Rs α := some (.ok v, h)

section
variable (T : Tb) (K : PySem.W.Frag)
/-- what is wanted of a result -/
def post {α β : Type} (R : Trk → Hp → α → β → Prop) (M : Trk) (H : Hp) (Er : Exn → Hp → Prop) (Q : β → Hp → Prop) : Rs α → Prop
  | none => False
  | some (.error c, h') => ∀ M' H', Ext M H M' H' → HR T K M' H' h' → Er c H'
  | some (.ok v, h') => ∀ M' H' x, Ext M H M' H' → HR T K M' H' h' → R M' H' v x → Q x H'
def Req {α : Type} : Trk → Hp → α → α → Prop := fun _ _ a b => a = b
/-- the exceptions' wish -/
def erX (E : XK) : Exn → Hp → Prop := fun e H => (e.fs = [] → E (T.exc e.c) none H) ∧ (e.fs ≠ [] → ∀ d, H d = some (.xd ((T.xnm e.c).zip e.fs)) → E (T.exc e.c) (some d) H)
/-- .. at the slots σ -/
def erAt (W : WX) (σ : L2.St) : Exn → Hp → Prop := erX T fun cls d H => W cls d σ H
def tr (W : WX) (m : ME) : TE := fun σ H Q => ∃ S M h, SR T K M H S σ ∧ HR T K M H h ∧ post T K (RV T K) M H (erAt T W σ) Q (m S h)
def trA (W : WX) (m : MA) : TA := fun σ H Q => ∃ S M h, SR T K M H S σ ∧ HR T K M H h ∧ post T K (RVA T K) M H (erAt T W σ) Q (m S h)
def trT (W : WX) (m : MT) : TT := fun σ H Q => ∃ S M h, SR T K M H S σ ∧ HR T K M H h ∧ post T K Req M H (erAt T W σ) Q (m S h)
end
section
variable {T : Tb} {K : PySem.W.Frag} {M M' : Trk} {H H' : Hp} {α β γ δ : Type} {R : Trk → Hp → α → β → Prop} {R2 : Trk → Hp → γ → δ → Prop} {Er : Exn → Hp → Prop} {Q : β → Hp → Prop} {Q2 : δ → Hp → Prop}
theorem post.ext {r : Rs α} (p : post T K R M H Er Q r) (e : Ext M H M' H') : post T K R M' H' Er Q r := by
  match r, p with
  | some (.error c, h'), p => exact fun M2 H2 e2 => p M2 H2 (e.trans e2)
  | some (.ok v, h'), p => exact fun M2 H2 x e2 => p M2 H2 x (e.trans e2)
theorem post.bnd {r : Rs α} {k : α → Hs → Rs γ} (p : post T K R2 M H Er Q2 (bnd r k))
    (f : ∀ v h1 M1 H1 x, Ext M H M1 H1 → HR T K M1 H1 h1 → R M1 H1 v x → post T K R2 M1 H1 Er Q2 (k v h1) → Q x H1) : post T K R M H Er Q r := by
  match r, p with
  | some (.error c, h'), p => exact p
  | some (.ok v, h'), p => exact fun M1 H1 x e hr rx => f v h' M1 H1 x e hr rx (post.ext (r := k v h') p e)
theorem post.imp {r : Rs α} (p : post T K R M H Er Q r) {Q' : β → Hp → Prop} (f : ∀ x H1, Q x H1 → Q' x H1) : post T K R M H Er Q' r := by
  match r, p with
  | some (.error c, h'), p => exact p
  | some (.ok v, h'), p => exact fun M1 H1 x e hr rx => f _ _ (p M1 H1 x e hr rx)
theorem post.ret {v : α} {h : Hs} (p : post T K R M H Er Q (ret v h)) {M1 : Trk} {H1 : Hp} {x : β} (e : Ext M H M1 H1) (hr : HR T K M1 H1 h) (r : R M1 H1 v x) : Q x H1 := p M1 H1 x e hr r
end

/-! ### simulations -/
section
variable (T : Tb) (X : Cx) (W : WX)
abbrev SimE (e : Expr) (m : ME) : Prop := PE X e (tr T X.K W m)
abbrev SimA (es : List Expr) (m : MA) : Prop := PA X es (trA T X.K W m)
abbrev SimT (e : Expr) (m : MT) : Prop := PT X e (trT T X.K W m)
end
theorem PE.weak {X : Cx} {e : Expr} {t t' : TE} (h : PE X e t) (f : ∀ σ H Q, t' σ H Q → t σ H Q) : PE X e t' := ⟨fun pins s σ H Q I q => h.run pins s σ H Q I (f σ H Q q)⟩
theorem PT.weak {X : Cx} {e : Expr} {t t' : TT} (h : PT X e t) (f : ∀ σ H Q, t' σ H Q → t σ H Q) : PT X e t' := ⟨fun pins s σ H Q I q => h.run pins s σ H Q I (f σ H Q q)⟩
theorem PA.weak {X : Cx} {e : List Expr} {t t' : TA} (h : PA X e t) (f : ∀ σ H Q, t' σ H Q → t σ H Q) : PA X e t' := ⟨fun p pins s σ H Q I q => h.run p pins s σ H Q I (f σ H Q q)⟩
theorem PS.weak {X : Cx} {e : Stmt} {t t' : TS} (h : PS X e t) (f : ∀ D σ H, t' D σ H → t D σ H) : PS X e t' := ⟨fun pins s σ H D I q => h.run pins s σ H D I (f D σ H q)⟩
theorem PSs.weak {X : Cx} {e : List Stmt} {t t' : TS} (h : PSs X e t) (f : ∀ D σ H, t' D σ H → t D σ H) : PSs X e t' := ⟨fun pins s σ H D I q => h.run pins s σ H D I (f D σ H q)⟩

section
variable {T : Tb} {X : Cx} {W : WX}
def mVar (i : Nat) : ME := fun S h => match S[i]? with
  | some (some v) => ret v h
  | _ => none
theorem sim_var (i : Nat) {x : Str} {pos : Pos} (hN : X.N[i]? = some x := by rfl) (hv : Vis X.env.scope x := by first | exact Or.inl rfl | exact Or.inr (Or.inl rfl) | exact Or.inr (Or.inr rfl)) (hd : (x == ("__debug__" : Str)) = false := by decide)
    (hcd : (x == ("__classdict__" : Str)) = false := by decide) : SimE T X W (.Name x pos) (mVar i) := by
  refine PE.weak (pe_var hN hv hd hcd) fun σ H Q ⟨S, M, h, sr, hr, p⟩ => ?_
  unfold mVar at p
  split at p
  · rename_i v e
    obtain ⟨y, ey, ry⟩ := sr.at' i v e
    exact ⟨y, ey, p.ret .refl hr ry⟩
  · exact p.elim
def mC (d : P) : ME := fun _ h => ret (.p d) h
theorem sim_int {i : Int} {j : Nat} {pos : Pos} : SimE T X W (.Constant (.int i) j pos) (mC (.int i)) := PE.weak pe_int fun σ H Q ⟨_, _, _, _, hr, p⟩ => p.ret .refl hr (.p (.int i))
theorem sim_bl {i : Bool} {j : Nat} {pos : Pos} : SimE T X W (.Constant (.bool i) j pos) (mC (.bl i)) := PE.weak pe_bl fun σ H Q ⟨_, _, _, _, hr, p⟩ => p.ret .refl hr (.p (.bl i))
theorem sim_non {j : Nat} {pos : Pos} : SimE T X W (.Constant .none j pos) (mC .non) := PE.weak pe_non fun σ H Q ⟨_, _, _, _, hr, p⟩ => p.ret .refl hr (.p .non)
theorem sim_str {i : Str} {j : Nat} {pos : Pos} : SimE T X W (.Constant (.str i) j pos) (mC (.str i)) := PE.weak pe_str fun σ H Q ⟨_, _, _, _, hr, p⟩ => p.ret .refl hr (.p (.str i))

/-- two expressions in a row, from the left -/
theorem tr_then {m : ME} {k : Vl → Hs → Rs Vl} {S : Sl} {M : Trk} {h : Hs} {σ : L2.St} {H : Hp} {Q : VK} {G : V → Hp → Prop} (sr : SR T X.K M H S σ) (hr : HR T X.K M H h)
    (p : post T X.K (RV T X.K) M H (erAt T W σ) Q (bnd (m S h) k))
    (f : ∀ v h1 M1 H1 x, Ext M H M1 H1 → SR T X.K M1 H1 S σ → HR T X.K M1 H1 h1 → RV T X.K M1 H1 v x → post T X.K (RV T X.K) M1 H1 (erAt T W σ) Q (k v h1) → G x H1) : tr T X.K W m σ H G :=
  ⟨S, M, h, sr, hr, p.bnd fun v h1 M1 H1 x e hr1 r q => f v h1 M1 H1 x e (sr.ext e) hr1 r q⟩

/-- what a rule of two values does -/
def Op2 (T : Tb) (K : PySem.W.Frag) (f : Vl → Vl → Hs → Rs Vl) (r : R2) : Prop :=
  ∀ M H h v w x y Er Q, HR T K M H h → RV T K M H v x → RV T K M H w y → post T K (RV T K) M H Er Q (f v w h) → r x y H Q
def Op1 (T : Tb) (K : PySem.W.Frag) (f : Vl → Hs → Rs Vl) (r : V → Hp → VK → Prop) : Prop :=
  ∀ M H h v x Er Q, HR T K M H h → RV T K M H v x → post T K (RV T K) M H Er Q (f v h) → r x H Q
def OpN (T : Tb) (K : PySem.W.Frag) (f : List Vl → Hs → Rs Vl) (r : List V → Hp → VK → Prop) : Prop :=
  ∀ M H h vs xs Er Q, HR T K M H h → RVA T K M H vs xs → post T K (RV T K) M H Er Q (f vs h) → r xs H Q
def m2 (f : Vl → Vl → Hs → Rs Vl) (a b : ME) : ME := fun S h => bnd (a S h) fun v h1 => bnd (b S h1) fun w h2 => f v w h2
def m1 (f : Vl → Hs → Rs Vl) (a : ME) : ME := fun S h => bnd (a S h) f
theorem tr_op {f : Vl → Vl → Hs → Rs Vl} {r : R2} (hf : Op2 T X.K f r) {a b : ME} {σ : L2.St} {H : Hp} {Q : VK} (h : tr T X.K W (m2 f a b) σ H Q) : tOp r (tr T X.K W a) (tr T X.K W b) σ H Q := by
  obtain ⟨S, M, h, sr, hr, p⟩ := h
  refine tr_then sr hr p fun v h1 M1 H1 x e1 sr1 hr1 r1 p1 => ?_
  refine tr_then sr1 hr1 p1 fun w h2 M2 H2 y e2 sr2 hr2 r2 p2 => ?_
  exact hf M2 H2 h2 v w x y _ Q hr2 (r1.ext e2) r2 p2
theorem tr_un {f : Vl → Hs → Rs Vl} {r : V → Hp → VK → Prop} (hf : Op1 T X.K f r) {a : ME} {σ : L2.St} {H : Hp} {Q : VK} (h : tr T X.K W (m1 f a) σ H Q) : tUn r (tr T X.K W a) σ H Q := by
  obtain ⟨S, M, h, sr, hr, p⟩ := h
  refine tr_then sr hr p fun v h1 M1 H1 x e1 sr1 hr1 r1 p1 => ?_
  exact hf M1 H1 h1 v x _ Q hr1 r1 p1
theorem sim_op {op : Operator} {f : Vl → Vl → Hs → Rs Vl} {r : R2} {ea eb : Expr} {a b : ME} {pos : Pos} (ho : OpR X (binaryOp op) r) (hf : Op2 T X.K f r) (ha : SimE T X W ea a) (hb : SimE T X W eb b) : SimE T X W (.BinOp ea op eb pos) (m2 f a b) :=
  PE.weak (pe_op ho ha hb) fun _ _ _ h => tr_op hf h
theorem sim_cmp {op : CmpOp} {f : Vl → Vl → Hs → Rs Vl} {r : R2} {ea eb : Expr} {a b : ME} {pos : Pos} (ho : OpR X (compareOp op) r) (hf : Op2 T X.K f r) (hm : behindInMarks op eb = false) (ha : SimE T X W ea a) (hb : SimE T X W eb b) : SimE T X W (.Compare ea [op] [eb] pos) (m2 f a b) :=
  PE.weak (pe_cmpR ho ha hb hm) fun _ _ _ h => tr_op hf h
theorem sim_un {op : UnaryOp} {f : Vl → Hs → Rs Vl} {r : V → Hp → VK → Prop} {ea : Expr} {a : ME} {pos : Pos} (ho : UnR X (unaryOp op) r) (hf : Op1 T X.K f r) (ha : SimE T X W ea a) : SimE T X W (.UnaryOp op ea pos) (m1 f a) :=
  PE.weak (pe_un ho ha) fun _ _ _ h => tr_un hf h

/-! argument lists -/
def aNil : MA := fun _ h => ret [] h
def aCons (a : ME) (r : MA) : MA := fun S h => bnd (a S h) fun v h1 => bnd (r S h1) fun vs h2 => ret (v :: vs) h2
theorem sim_nil : SimA T X W [] aNil := PA.weak pa_nil fun σ H Q ⟨_, _, _, _, hr, p⟩ => p.ret .refl hr .nil
theorem sim_cons {e : Expr} {es : List Expr} {a : ME} {r : MA} (ha : SimE T X W e a) (hr : SimA T X W es r) (hs : starEach (e :: es) X.env = (false, eval e X.env) :: starEach es X.env := by rfl) : SimA T X W (e :: es) (aCons a r) := by
  refine PA.weak (pa_cons ha hr hs) fun σ H Q ⟨S, M, h, sr, hr, p⟩ => ?_
  refine ⟨S, M, h, sr, hr, p.bnd fun v h1 M1 H1 x e1 hr1 r1 p1 => ?_⟩
  refine ⟨S, M1, h1, sr.ext e1, hr1, p1.bnd fun vs h2 M2 H2 xs e2 hr2 r2 p2 => ?_⟩
  exact p2.ret .refl hr2 (.cons (r1.ext e2) r2)
end
end EV
end T0
section T1
set_option Elab.async false
set_option linter.all false
set_option maxRecDepth 100000
namespace EV
open PySem PySem.Spec PyProof.Rows L2

theorem le_line {n : Nat} (h : n ≤ 16777216) : n ≤ sizeLine := h
theorem lt_line {n : Nat} (h : n < 16777216) : n < sizeLine := h

section
variable {T : Tb} {K : PySem.W.Frag} {M M' : Trk} {H H' : Hp} {h : Hs}
/-! ### a new object -/
theorem live_upd {p a : Addr} {o : HO} (h : upd H p o a = none) : H a = none := by
  by_cases e : a = p
  · rw [e, upd_same] at h; cases h
  · rw [upd_ne e] at h; exact h
theorem Ext.fresh {p : Addr} {o : HO} (hp : H p = none) : Ext M H M (upd H p o) :=
  ⟨⟨[], by simp⟩, fun _ h => h, fun a h1 h2 => absurd h1 h2, fun a u e _ => by rw [upd_ne (ne_of_none e hp)]; exact e, fun _ h => live_upd h, fun _ h => h, fun _ h => .inl h⟩
abbrev Trk.add (M : Trk) (p : Addr) : Trk := ⟨M.tk ++ [p], M.mm, M.no ++ [p], fun a h => (List.mem_append.mp h).elim (fun z => (List.mem_append.mp z).elim (fun y => List.mem_append_left _ (M.sub a (List.mem_append_left _ y))) fun y => List.mem_append_right _ y) fun z => List.mem_append_left _ (M.sub a (List.mem_append_right _ z)), M.inj⟩
abbrev Trk.bar (M : Trk) (p : Addr) : Trk := ⟨M.tk, M.mm, M.no ++ [p], fun a h => List.mem_append_left _ (M.sub a h), M.inj⟩
theorem Ext.bar {p : Addr} {o : HO} (hp : H p = none) : Ext M H (M.bar p) (upd H p o) := by
  refine ⟨⟨[], by simp⟩, fun a h => List.mem_append_left _ h, fun a h1 h2 => ?_, fun a u e _ => by rw [upd_ne (ne_of_none e hp)]; exact e, fun _ h => live_upd h, fun _ h => h, fun _ h => .inl h⟩
  rcases List.mem_append.mp h1 with z | z
  · exact absurd z h2
  · have e : a = p := by simpa using z
    rw [e]; exact hp
theorem Ext.track {p : Addr} {o : HO} (hp : H p = none) : Ext M H (M.add p) (upd H p o) := by
  refine ⟨⟨[p], rfl, fun a ha => by rw [show a = p by simpa using ha]; exact hp⟩, fun a h => List.mem_append_left _ h, fun a h1 h2 => ?_, fun a u e _ => by rw [upd_ne (ne_of_none e hp)]; exact e, fun _ h => live_upd h, fun _ h => h, fun _ h => .inl h⟩
  rcases List.mem_append.mp h1 with z | z
  · exact absurd z h2
  · have e : a = p := by simpa using z
    rw [e]; exact hp
theorem Cell.obj {a : Addr} {d : P} (c : Cell T K M H a d) : ∃ o, H a = some o := by
  cases c with
  | lst e _ => exact ⟨_, e⟩
  | ins e _ _ => exact ⟨_, e⟩
theorem HR.got (hr : HR T K M H h) {n : Nat} {a : Addr} (e : M.tk[n]? = some a) : ∃ p, h[n]? = some p ∧ Cell T K M H a p := by
  have hl : n < h.length := by rw [← hr.len]; exact (List.getElem?_eq_some_iff.mp e).1
  exact ⟨h[n], List.getElem?_eq_getElem hl, hr.at' n a _ e (List.getElem?_eq_getElem hl)⟩
theorem HR.none_out (hr : HR T K M H h) {p : Addr} (hp : H p = none) : p ∉ M.no := fun z => hr.pos p z hp
theorem HR.none_out' (hr : HR T K M H h) {p : Addr} (hp : H p = none) : p ∉ M.ch := fun z => hr.none_out hp (M.sub p z)
theorem Cell.keep {a : Addr} {d : P} (c : Cell T K M H a d) (e : Ext M H M' H') (k : ∀ o, H a = some o → H' a = some o) : Cell T K M' H' a d := by
  cases c with
  | lst q r => exact .lst (k _ q) (r.ext e)
  | ins q n r => exact .ins (k _ q) n (r.ext e)
theorem pos_upd {p a : Addr} {o : HO} (h : H a ≠ none) : L2.upd H p o a ≠ none := by
  by_cases e : a = p
  · rw [e, upd_same]; exact fun z => by cases z
  · rw [upd_ne e]; exact h
theorem MemOk.ext {c : Nat} {fs : List P} {kvs : List (List Key × V)} (m : MemOk T K M H c fs kvs) (e : Ext M H M' H') : MemOk T K M' H' c fs kvs :=
  ⟨m.nd, fun kv h => let ⟨i, j, a, b1, b2, b3, b4, r⟩ := m.ok kv h; ⟨i, j, a, b1, b2, b3, b4, r.ext e⟩⟩
theorem MemOk.less {c : Nat} {fs : List P} {kvs : List (List Key × V)} (m : MemOk T K M H c fs kvs) (hs : ∀ a ∈ M'.no, a ∈ M.no) (hm : ∀ m ∈ M.mm, m ∈ M'.mm) : MemOk T K M' H c fs kvs :=
  ⟨m.nd, fun kv h => let ⟨i, j, a, b1, b2, b3, b4, r⟩ := m.ok kv h; ⟨i, j, a, b1, b2, b3, b4, r.less hs hm⟩⟩
theorem MemOk.barred {c : Nat} {fs : List P} {kvs : List (List Key × V)} {b : Addr} {o : HO} (m : MemOk T K M H c fs kvs) (hb : b ∈ M.no) : MemOk T K M (upd H b o) c fs kvs :=
  ⟨m.nd, fun kv h => let ⟨i, j, a, b1, b2, b3, b4, r⟩ := m.ok kv h; ⟨i, j, a, b1, b2, b3, b4, r.barred hb⟩⟩
/-- what is kept for later, elsewhere -/
theorem HR.memo (hr : HR T K M H h) (e : Ext M H M' H') (hm : M'.mm = M.mm) (k : ∀ m ∈ M.mm, ∀ o, H m.1 = some o → H' m.1 = some o) : ∀ m ∈ M'.mm, ∃ kvs, H' m.1 = some (.dT kvs) ∧ MemOk T K M' H' m.2.1 m.2.2 kvs := fun m h => by
  rw [hm] at h
  obtain ⟨kvs, a, b⟩ := hr.mem m h
  exact ⟨kvs, k m h _ a, b.ext e⟩
theorem HR.fresh (hr : HR T K M H h) {p : Addr} {o : HO} (hp : H p = none) : HR T K M (upd H p o) h :=
  ⟨hr.len, hr.nd, fun a ha => pos_upd (hr.pos a ha), fun n a d e1 e2 => (hr.at' n a d e1 e2).keep (.fresh hp) fun u q => by rw [upd_ne (ne_of_none q hp)]; exact q,
    hr.memo (.fresh hp) rfl fun m _ u q => by rw [upd_ne (ne_of_none q hp)]; exact q⟩
theorem pos_add {p a : Addr} {o : HO} (hs : ∀ a ∈ M.no, H a ≠ none) (ha : a ∈ M.no ++ [p]) : L2.upd H p o a ≠ none := by
  rcases List.mem_append.mp ha with z | z
  · exact pos_upd (hs a z)
  · have e : a = p := by simpa using z
    rw [e, upd_same]; exact fun z => by cases z
theorem HR.bar (hr : HR T K M H h) {p : Addr} {o : HO} (hp : H p = none) : HR T K (M.bar p) (upd H p o) h :=
  ⟨hr.len, hr.nd, fun a ha => pos_add hr.pos ha, fun n a d e1 e2 => (hr.at' n a d e1 e2).keep (.bar hp) fun u q => by rw [upd_ne (ne_of_none q hp)]; exact q,
    hr.memo (.bar hp) rfl fun m _ u q => by rw [upd_ne (ne_of_none q hp)]; exact q⟩
theorem HR.track (hr : HR T K M H h) {p : Addr} {o : HO} {d : P} (hp : H p = none) (c : Cell T K (M.add p) (L2.upd H p o) p d) : HR T K (M.add p) (L2.upd H p o) (h ++ [d]) := by
  refine ⟨by simp [hr.len], List.nodup_append.mpr ⟨hr.nd, by simp, fun a h1 b h2 e => ?_⟩, fun a ha => pos_add hr.pos ha, fun n a e e1 e2 => ?_, hr.memo (.track hp) rfl fun m _ u q => by rw [upd_ne (ne_of_none q hp)]; exact q⟩
  · have e' : b = p := by simpa using h2
    exact hr.none_out' hp (Trk.inT (by rw [← e', ← e]; exact h1))
  · have e1 : (M.tk ++ [p])[n]? = some a := e1
    by_cases hn : n < M.tk.length
    · rw [List.getElem?_append_left hn] at e1
      rw [List.getElem?_append_left (by rw [← hr.len]; exact hn)] at e2
      exact (hr.at' n a e e1 e2).keep (.track hp) fun u q => by rw [upd_ne (ne_of_none q hp)]; exact q
    · rw [List.getElem?_append_right (Nat.le_of_not_lt hn)] at e1
      rw [List.getElem?_append_right (by rw [← hr.len]; exact Nat.le_of_not_lt hn), ← hr.len] at e2
      cases hk : n - M.tk.length with
      | zero =>
        rw [hk] at e1 e2
        simp at e1 e2
        subst e1 e2
        exact c
      | succ m => rw [hk] at e1; simp at e1
/-- what is barred may change -/
theorem Ext.write {a : Addr} {o : HO} (ha : a ∈ M.tk) : Ext M H M (L2.upd H a o) :=
  ⟨⟨[], by simp⟩, fun _ h => h, fun a h1 h2 => absurd h1 h2, fun b u e n => by rw [upd_ne (fun z => n (by rw [z]; exact Trk.inT ha))]; exact e, fun _ h => live_upd h, fun _ h => h, fun _ h => .inl h⟩
theorem HR.write (hr : HR T K M H h) {n : Nat} {a : Addr} {o : HO} {d : P} (e : M.tk[n]? = some a) (c : Cell T K M (L2.upd H a o) a d) : HR T K M (L2.upd H a o) (h.set n d) := by
  have ha : a ∈ M.tk := List.mem_of_getElem? e
  refine ⟨by simp [hr.len], hr.nd, fun a ha => pos_upd (hr.pos a ha), fun m b q e1 e2 => ?_, hr.memo (.write ha) rfl fun m hm u z => ?_⟩
  rotate_left
  · obtain ⟨p, _, cc⟩ := hr.got e
    obtain ⟨kvs, q, _⟩ := hr.mem m hm
    have ne : m.1 ≠ a := fun y => by
      rw [y] at q
      cases cc with
      | lst z _ => rw [z] at q; cases q
      | ins z _ _ => rw [z] at q; cases q
    rw [upd_ne ne]; exact z
  have hl : n < h.length := by rw [← hr.len]; exact (List.getElem?_eq_some_iff.mp e).1
  by_cases hm : n = m
  · subst hm
    rw [e] at e1; cases e1
    rw [List.getElem?_set_self hl] at e2; cases e2
    exact c
  · rw [List.getElem?_set_ne hm] at e2
    refine (hr.at' m b q e1 e2).keep (.write ha) fun u z => ?_
    have hb : b ≠ a := fun y => by
      subst y
      obtain ⟨h1, q1⟩ := List.getElem?_eq_some_iff.mp e
      obtain ⟨h2, q2⟩ := List.getElem?_eq_some_iff.mp e1
      exact hm ((List.getElem_inj hr.nd).mp (q1.trans q2.symm))
    rw [upd_ne hb]; exact z
/-- .. what is barred and not tracked -/
theorem Cell.barred {a b : Addr} {o : HO} {d : P} (c : Cell T K M H a d) (hb : b ∈ M.no) (n : a ≠ b) : Cell T K M (L2.upd H b o) a d := by
  cases c with
  | lst q r => exact .lst (by rw [upd_ne n]; exact q) (r.barred hb)
  | ins q e r => exact .ins (by rw [upd_ne n]; exact q) e (r.barred hb)
theorem HR.writeN (hr : HR T K M H h) {a : Addr} {o : HO} (ha : a ∈ M.no) (hn : a ∉ M.ch) : HR T K M (L2.upd H a o) h :=
  ⟨hr.len, hr.nd, fun a ha => pos_upd (hr.pos a ha), fun m b q e1 e2 => (hr.at' m b q e1 e2).barred ha fun y => hn (Trk.inT (by rw [← y]; exact List.mem_of_getElem? e1)),
    fun m hm => let ⟨kvs, q, k⟩ := hr.mem m hm; ⟨kvs, by rw [upd_ne (fun y => hn (by rw [← y]; exact Trk.inM hm))]; exact q, k.barred ha⟩⟩
/-- a new pure tuple, list -/
theorem new_tup (hr : HR T K M H h) {p : Addr} {xs : List V} {ds : List P} (hp : H p = none) (r : RpA T K M H ds xs) : RV T K M (L2.upd H p (.tup xs)) (.p (.tup ds)) (.ref p) :=
  .p (.tup ⟨upd_same, hr.none_out hp⟩ (r.ext (.fresh hp)))
theorem new_lst (hr : HR T K M H h) {p : Addr} {xs : List V} {ds : List P} (hp : H p = none) (r : RpA T K M H ds xs) : RV T K M (L2.upd H p (.lst xs)) (.p (.lst ds)) (.ref p) :=
  .p (.lst upd_same (hr.none_out hp) (r.ext (.fresh hp)))
theorem trk_lst (hr : HR T K M H h) {p : Addr} {xs : List V} {ds : List P} (hp : H p = none) (r : RpA T K M H ds xs) : HR T K (M.add p) (L2.upd H p (.lst xs)) (h ++ [.lst ds]) :=
  hr.track hp (.lst upd_same (r.ext (.track hp)))
/-- fewer are barred -/
theorem Cell.less {a : Addr} {d : P} (c : Cell T K M H a d) (hs : ∀ a ∈ M'.no, a ∈ M.no) (hm : ∀ m ∈ M.mm, m ∈ M'.mm) : Cell T K M' H a d := by
  cases c with
  | lst q r => exact .lst q (r.less hs hm)
  | ins q n r => exact .ins q n (r.less hs hm)
theorem HR.less (hr : HR T K M H h) (ht : M'.tk = M.tk) (hm : M'.mm = M.mm) (hs : ∀ a ∈ M'.no, a ∈ M.no) : HR T K M' H h :=
  ⟨by rw [ht]; exact hr.len, by rw [ht]; exact hr.nd, fun a ha => hr.pos a (hs a ha), fun n a p e1 e2 => (hr.at' n a p (by rw [← ht]; exact e1) e2).less hs fun m z => by rw [hm]; exact z,
    fun m z => let ⟨kvs, q, k⟩ := hr.mem m (by rw [← hm]; exact z); ⟨kvs, q, k.less hs fun m y => by rw [hm]; exact y⟩⟩
end

/-! ### data as the library's -/
mutual
def pyOf : P → Option PyData
  | .non => some .none
  | .bl b => some (.bool b)
  | .int i => some (.int i)
  | .str x => some (.str x)
  | .tup ds => match pyAll ds with | some l => some (.tuple l) | none => none
  | .lst ds => match pyAll ds with | some l => some (.list l) | none => none
  | .scr ds => match pyAll ds with | some l => some (.list l) | none => none
  | .ins _ _ => none
  | .dct _ _ => none
  | .fn _ => none
  | .mem _ _ => none
def pyAll : List P → Option (List PyData)
  | [] => some []
  | d :: ds => match pyOf d with
    | some x => match pyAll ds with
      | some l => some (x :: l)
      | none => none
    | none => none
end
section
variable {T : Tb} {K : PySem.W.Frag} {M : Trk} {H : Hp} {h : Hs}
mutual
theorem Rp.dp : ∀ {d : P} {v : V} {x : PyData}, Rp T K M H d v → pyOf d = some x → Dp K H v x
  | _, _, _, .non, e => by simp only [pyOf, Option.some.injEq] at e; subst e; exact .non
  | _, _, _, .bl b, e => by simp only [pyOf, Option.some.injEq] at e; subst e; exact .bl b
  | _, _, _, .int b, e => by simp only [pyOf, Option.some.injEq] at e; subst e; exact .int b
  | _, _, _, .str b, e => by simp only [pyOf, Option.some.injEq] at e; subst e; exact .str b
  | _, _, _, .tup (ds := ds) hs r, e => by
    simp only [pyOf] at e
    cases q : pyAll ds with
    | none => rw [q] at e; cases e
    | some l => rw [q] at e; cases e; exact .tup hs.sqT (RpA.dp r q)
  | _, _, _, .lst (ds := ds) hs n r, e => by
    simp only [pyOf] at e
    cases q : pyAll ds with
    | none => rw [q] at e; cases e
    | some l => rw [q] at e; cases e; exact .lst (.of hs) (RpA.dp r q)
  | _, _, _, .scr (ds := ds) hs r, e => by
    simp only [pyOf] at e
    cases q : pyAll ds with
    | none => rw [q] at e; cases e
    | some l => rw [q] at e; cases e; exact .lst hs.sqL (RpA.dp r q)
  | _, _, _, .ins _ _ _ _, e => by simp [pyOf] at e
  | _, _, _, .dct _ _ _ _, e => by simp [pyOf] at e
  | _, _, _, .fn _, e => by simp [pyOf] at e
  | _, _, _, .mem _, e => by simp [pyOf] at e
theorem RpA.dp : ∀ {ds : List P} {vs : List V} {l : List PyData}, RpA T K M H ds vs → pyAll ds = some l → DpAll K H vs l
  | _, _, _, .nil, e => by simp only [pyAll, Option.some.injEq] at e; subst e; exact .nil
  | _, _, _, .cons (d := d) (ds := ds) hd r, e => by
    simp only [pyAll] at e
    cases q : pyOf d with
    | none => rw [q] at e; cases e
    | some x =>
      rw [q] at e
      cases q2 : pyAll ds with
      | none => rw [q2] at e; cases e
      | some l => rw [q2] at e; cases e; exact .cons (Rp.dp hd q) (RpA.dp r q2)
end
def pyV (v : Vl) (h : Hs) : Option PyData := match v with
  | .p d => pyOf d
  | .ref n => match h[n]? with
    | some (.lst ds) => match pyAll ds with | some l => some (.list l) | none => none
    | _ => none
theorem RV.dp {v : Vl} {x : V} {d : PyData} (hr : HR T K M H h) (r : RV T K M H v x) (e : pyV v h = some d) : Dp K H x d := by
  cases r with
  | p r => exact r.dp e
  | ref q =>
    obtain ⟨p, hp, c⟩ := hr.got q
    simp only [pyV, hp] at e
    cases c with
    | lst z r =>
      rename_i xs ds
      have e : (match pyAll ds with | some l => some (PyData.list l) | none => none) = some d := e
      cases q : pyAll ds with
      | none => rw [q] at e; cases e
      | some l => rw [q] at e; cases e; exact .lst (.of z) (r.dp q)
    | ins _ _ _ => cases e
end

/-! ### operators -/
section
variable {T : Tb} {K : PySem.W.Frag}
def pI (i : Int) (h : Hs) : Rs Vl := ret (.p (.int i)) h
def pB (b : Bool) (h : Hs) : Rs Vl := ret (.p (.bl b)) h
def fAdd (v w : Vl) (h : Hs) : Rs Vl := match v, w with
  | .p (.int i), .p (.int j) => pI (i + j) h
  | .p (.str x), .p (.str y) => if x.length + y.length ≤ 16777216 then ret (.p (.str (x ++ y))) h else none
  | .p (.tup a), .p (.tup b) => if a.length + b.length ≤ 16777216 then ret (.p (.tup (a ++ b))) h else none
  | .p (.lst a), .p (.lst b) => if a.length + b.length ≤ 16777216 then ret (.p (.lst (a ++ b))) h else none
  | _, _ => none
abbrev rI0add : R2 := rI0 fun i j => .int (i + j)
abbrev rSadd : R2 := fun x y H Q => ∃ i j, x = .str i ∧ y = .str j ∧ i.length + j.length ≤ sizeLine ∧ Q (.str (i ++ j)) H
abbrev rAdd4 (K : PySem.W.Frag) : R2 := fun x y H Q => rI0add x y H Q ∨ (rSadd x y H Q ∨ (rCatA K x y H Q ∨ rCat x y H Q))
theorem or_add {X : Cx} : OpR X (binaryOp .Add) (rAdd4 X.K) := op_add.or (op_add_str.or (op_catA.or op_cat))
theorem s_add : Op2 T K fAdd (rAdd4 K) := by
  intro M H h v w x y Er Q hr rx ry p
  unfold fAdd at p
  split at p
  · cases rx with | p rx => cases rx; cases ry with | p ry => cases ry; exact .inl ⟨_, _, rfl, rfl, p.ret .refl hr (.p (.int _))⟩
  · split at p
    · rename_i hz
      cases rx with | p rx => cases rx; cases ry with | p ry => cases ry; exact .inr (.inl ⟨_, _, rfl, rfl, le_line hz, p.ret .refl hr (.p (.str _))⟩)
    · exact p.elim
  · split at p
    · rename_i hz
      cases rx with
      | p rx =>
        cases ry with
        | p ry =>
          cases rx with
          | tup tx ra =>
            rename_i a xs
            cases ry with
            | tup ty rb =>
              rename_i b ys
              refine .inr (.inr (.inl ⟨a, b, xs, ys, rfl, rfl, tx.sqT, ty.sqT, ?_, fun e => ?_, fun _ e => ?_, fun _ _ q hq => ?_⟩))
              · rw [← ra.length, ← rb.length]; exact le_line hz
              · subst e
                cases ra
                exact p.ret .refl hr (.p (.tup ty rb))
              · subst e
                cases rb
                rw [List.append_nil] at p
                exact p.ret .refl hr (.p (.tup tx ra))
              · exact p.ret (.fresh hq) (hr.fresh hq) (new_tup hr hq (ra.append rb))
    · exact p.elim
  · split at p
    · rename_i hz
      cases rx with
      | p rx =>
        cases ry with
        | p ry =>
          cases rx with
          | lst tx nx ra =>
            rename_i a xs
            cases ry with
            | lst ty ny rb =>
              rename_i b ys
              refine .inr (.inr (.inr ⟨a, b, xs, ys, rfl, rfl, tx, ty, ?_, fun q hq => ?_⟩))
              · rw [← ra.length, ← rb.length]; exact le_line hz
              · exact p.ret (.fresh hq) (hr.fresh hq) (new_lst hr hq (ra.append rb))
    · exact p.elim
  · exact p.elim
theorem sim_add {X : Cx} {W : WX} {ea eb : Expr} {a b : ME} {pos : Pos} (ha : SimE T X W ea a) (hb : SimE T X W eb b) : SimE T X W (.BinOp ea .Add eb pos) (m2 fAdd a b) := sim_op or_add s_add ha hb

/-- two ints by a rule -/
def fI2 (C : Int → Int → Bool) (g : Int → Int → P) (v w : Vl) (h : Hs) : Rs Vl := match v, w with
  | .p (.int i), .p (.int j) => if C i j = true then ret (.p (g i j)) h else none
  | _, _ => none
theorem s_I2 {C : Int → Int → Bool} {D : Int → Int → Prop} {g : Int → Int → P} {g' : Int → Int → V} (hC : ∀ i j, C i j = true → D i j) (hg : ∀ M H i j, Rp T K M H (g i j) (g' i j)) : Op2 T K (fI2 C g) (rI D g') := by
  intro M H h v w x y Er Q hr rx ry p
  unfold fI2 at p
  split at p
  · split at p
    · rename_i hc
      cases rx with | p rx => cases rx; cases ry with | p ry => cases ry; exact ⟨_, _, rfl, rfl, hC _ _ hc, p.ret .refl hr (.p (hg _ _ _ _))⟩
    · exact p.elim
  · exact p.elim
theorem s_I0 {g : Int → Int → P} {g' : Int → Int → V} (hg : ∀ M H i j, Rp T K M H (g i j) (g' i j)) : Op2 T K (fI2 (fun _ _ => true) g) (rI0 g') := by
  intro M H h v w x y Er Q hr rx ry p
  unfold fI2 at p
  split at p
  · cases rx with | p rx => cases rx; cases ry with | p ry => cases ry; exact ⟨_, _, rfl, rfl, p.ret .refl hr (.p (hg _ _ _ _))⟩
  · exact p.elim
def cT : Int → Int → Bool := fun _ _ => true
abbrev fSub := fI2 (fun _ _ => true) fun i j => .int (i - j)
abbrev fXor := fI2 (fun _ _ => true) fun i j => .int (Builtin.bitXor i j)
abbrev fLt := fI2 (fun _ _ => true) fun i j => .bl (decide (i < j))
abbrev fLe := fI2 (fun _ _ => true) fun i j => .bl (decide (i ≤ j))
abbrev fGt := fI2 (fun _ _ => true) fun i j => .bl (decide (j < i))
abbrev fGe := fI2 (fun _ _ => true) fun i j => .bl (decide (j ≤ i))
abbrev fMod := fI2 (fun _ j => decide (0 < j)) fun i j => .int (i % j)
abbrev fDiv := fI2 (fun _ j => decide (0 < j) && decide (j < 1073741824)) fun i j => .int (i / j)
abbrev fPow := fI2 (fun i j => decide (0 ≤ j) && decide (j ≤ 1000000) && decide (i.natAbs < 2 ^ 64)) fun i j => .int (i ^ j.toNat)
abbrev fShl := fI2 (fun i j => decide (0 ≤ j) && decide (j ≤ 1000000) && decide (i.natAbs < 2 ^ 64)) fun i j => .int (i * 2 ^ j.toNat)
theorem cpow_of {i j : Int} (h : (decide (0 ≤ j) && decide (j ≤ 1000000) && decide (i.natAbs < 2 ^ 64)) = true) : CPow i j := by
  simp only [Bool.and_eq_true, decide_eq_true_eq] at h
  exact ⟨h.1.1, h.1.2, h.2⟩
section
variable {X : Cx} {W : WX} {ea eb : Expr} {a b : ME} {pos : Pos}
theorem sim_sub (ha : SimE T X W ea a) (hb : SimE T X W eb b) : SimE T X W (.BinOp ea .Sub eb pos) (m2 fSub a b) := sim_op op_sub (s_I0 fun _ _ _ _ => .int _) ha hb
theorem sim_xor (ha : SimE T X W ea a) (hb : SimE T X W eb b) : SimE T X W (.BinOp ea .BitXor eb pos) (m2 fXor a b) := sim_op op_xor (s_I0 fun _ _ _ _ => .int _) ha hb
theorem sim_mod (ha : SimE T X W ea a) (hb : SimE T X W eb b) : SimE T X W (.BinOp ea .Mod eb pos) (m2 fMod a b) := sim_op op_mod (s_I2 (fun _ _ h => of_decide_eq_true h) fun _ _ _ _ => .int _) ha hb
theorem sim_div (ha : SimE T X W ea a) (hb : SimE T X W eb b) : SimE T X W (.BinOp ea .FloorDiv eb pos) (m2 fDiv a b) :=
  sim_op op_fdiv (s_I2 (fun _ _ h => by simp only [Bool.and_eq_true, decide_eq_true_eq] at h; exact h) fun _ _ _ _ => .int _) ha hb
theorem sim_pow (ha : SimE T X W ea a) (hb : SimE T X W eb b) : SimE T X W (.BinOp ea .Pow eb pos) (m2 fPow a b) := sim_op op_pow (s_I2 (fun _ _ h => cpow_of h) fun _ _ _ _ => .int _) ha hb
theorem sim_shl (ha : SimE T X W ea a) (hb : SimE T X W eb b) : SimE T X W (.BinOp ea .LShift eb pos) (m2 fShl a b) := sim_op op_shl (s_I2 (fun _ _ h => cpow_of h) fun _ _ _ _ => .int _) ha hb
theorem sim_lt (ha : SimE T X W ea a) (hb : SimE T X W eb b) : SimE T X W (.Compare ea [.Lt] [eb] pos) (m2 fLt a b) := sim_cmp op_lt (s_I0 fun _ _ _ _ => .bl _) (nomark _) ha hb
theorem sim_le (ha : SimE T X W ea a) (hb : SimE T X W eb b) : SimE T X W (.Compare ea [.LtE] [eb] pos) (m2 fLe a b) := sim_cmp op_le (s_I0 fun _ _ _ _ => .bl _) (nomark _) ha hb
theorem sim_gt (ha : SimE T X W ea a) (hb : SimE T X W eb b) : SimE T X W (.Compare ea [.Gt] [eb] pos) (m2 fGt a b) := sim_cmp op_gt (s_I0 fun _ _ _ _ => .bl _) (nomark _) ha hb
theorem sim_ge (ha : SimE T X W ea a) (hb : SimE T X W eb b) : SimE T X W (.Compare ea [.GtE] [eb] pos) (m2 fGe a b) := sim_cmp op_ge (s_I0 fun _ _ _ _ => .bl _) (nomark _) ha hb
end

/-! * of ints, of a tuple or a list and an int -/
def cMul (i j : Int) : Bool := (decide (-(2 ^ 64) < i) && decide (i < 2 ^ 64)) || (decide (-(2 ^ 64) < j) && decide (j < 2 ^ 64))
theorem cMul_of {i j : Int} (h : cMul i j = true) : CMul i j := by
  unfold cMul at h
  simp only [Bool.or_eq_true, Bool.and_eq_true, decide_eq_true_eq] at h
  exact h
def fMulI := fI2 cMul fun i j => .int (i * j)
section
variable {X : Cx} {W : WX} {ea eb : Expr} {a b : ME} {pos : Pos}
theorem sim_mulI (ha : SimE T X W ea a) (hb : SimE T X W eb b) : SimE T X W (.BinOp ea .Mult eb pos) (m2 fMulI a b) := sim_op op_mul (s_I2 (fun _ _ h => cMul_of h) fun _ _ _ _ => .int _) ha hb
end
def fUSub (v : Vl) (h : Hs) : Rs Vl := match v with
  | .p (.int i) => pI (-i) h
  | _ => none
theorem s_neg : Op1 T K fUSub (rU fun i => .int (-i)) := by
  intro M H h v x Er Q hr rx p
  unfold fUSub at p
  split at p
  · cases rx with | p rx => cases rx; exact ⟨_, rfl, p.ret .refl hr (.p (.int _))⟩
  · exact p.elim
theorem sim_neg {X : Cx} {W : WX} {ea : Expr} {a : ME} {pos : Pos} (ha : SimE T X W ea a) : SimE T X W (.UnaryOp .USub ea pos) (m1 fUSub a) := sim_un un_neg s_neg ha

/-! == and != of data -/
def fEqD (neg : Bool) (v w : Vl) (h : Hs) : Rs Vl := match pyV v h, pyV w h with
  | some d, some e => if SeqAt.shaped d = true ∧ SeqAt.shaped e = true then pB (if neg then !PyData.eqv d e else PyData.eqv d e) h else none
  | _, _ => none
theorem s_eq : Op2 T K (fEqD false) (rEqD K) := by
  intro M H h v w x y Er Q hr rx ry p
  unfold fEqD at p
  split at p
  · rename_i d e q1 q2
    split at p
    · rename_i hs
      exact ⟨d, e, rx.dp hr q1, ry.dp hr q2, hs.1, hs.2, p.ret .refl hr (.p (.bl _))⟩
    · exact p.elim
  · exact p.elim
theorem s_ne : Op2 T K (fEqD true) (rNeD K) := by
  intro M H h v w x y Er Q hr rx ry p
  unfold fEqD at p
  split at p
  · rename_i d e q1 q2
    split at p
    · rename_i hs
      exact ⟨d, e, rx.dp hr q1, ry.dp hr q2, hs.1, hs.2, p.ret .refl hr (.p (.bl _))⟩
    · exact p.elim
  · exact p.elim
section
variable {X : Cx} {W : WX} {ea eb : Expr} {a b : ME} {pos : Pos} {k : Nat}
theorem sim_eq (hr : Room k X.A) (ha : SimE T X W ea a) (hb : SimE T X W eb b) : SimE T X W (.Compare ea [.Eq] [eb] pos) (m2 (fEqD false) a b) := sim_cmp (op_eqD hr.units) s_eq (nomark _) ha hb
theorem sim_ne (hr : Room k X.A) (ha : SimE T X W ea a) (hb : SimE T X W eb b) : SimE T X W (.Compare ea [.NotEq] [eb] pos) (m2 (fEqD true) a b) := sim_cmp (op_neD hr.units) s_ne (nomark _) ha hb
end
/-! is None -/
def isNon (v : Vl) : Bool := match v with
  | .p .non => true
  | _ => false
def fIsN (neg : Bool) (v : Vl) (h : Hs) : Rs Vl := pB (if neg then !isNon v else isNon v) h
theorem RV.non_iff {M : Trk} {H : Hp} {v : Vl} {x : V} (r : RV T K M H v x) : decide (x = .non) = isNon v := by
  cases r with
  | p r => cases r <;> rfl
  | ref _ => rfl
section
variable {X : Cx} {W : WX} {ea : Expr} {a : ME} {pos pos' : Pos} {j : Nat}
theorem sim_isN (ha : SimE T X W ea a) : SimE T X W (.Compare ea [.Is] [.Constant .none j pos'] pos) (m1 (fIsN false) a) := by
  refine PE.weak (pe_cmp (pc_isN ha)) fun σ H Q ⟨S, M, h, sr, hr, p⟩ => tr_then sr hr p fun v h1 M1 H1 x e1 sr1 hr1 r1 p1 => ?_
  rw [r1.non_iff]
  exact p1.ret .refl hr1 (.p (.bl _))
theorem sim_notN (ha : SimE T X W ea a) : SimE T X W (.Compare ea [.IsNot] [.Constant .none j pos'] pos) (m1 (fIsN true) a) := by
  refine PE.weak (pe_cmp (pc_notN ha)) fun σ H Q ⟨S, M, h, sr, hr, p⟩ => tr_then sr hr p fun v h1 M1 H1 x e1 sr1 hr1 r1 p1 => ?_
  rw [r1.non_iff]
  exact p1.ret .refl hr1 (.p (.bl _))
end
end
end EV
end T1
section T2
set_option Elab.async false
set_option linter.all false
set_option maxRecDepth 100000
namespace EV
open PySem PySem.Spec PyProof.Rows L2

section
variable {T : Tb} {X : Cx} {W : WX}
/-! ### tests -/
def bT (v : Vl) (h : Hs) : Rs Bool := match v with
  | .p (.bl b) => ret b h
  | _ => none
def mT (m : ME) : MT := fun S h => bnd (m S h) bT
theorem tr_bT {m : ME} {σ : L2.St} {H : Hp} {Q : Bool → Hp → Prop} (h : trT T X.K W (mT m) σ H Q) : tr T X.K W m σ H (fun x H1 => ∃ c, x = .bl c ∧ Q c H1) := by
  obtain ⟨S, M, h, sr, hr, p⟩ := h
  refine ⟨S, M, h, sr, hr, p.bnd fun v h1 M1 H1 x e1 hr1 r1 p1 => ?_⟩
  unfold bT at p1
  split at p1
  · cases r1 with
    | p r =>
      cases r
      exact ⟨_, rfl, p1.ret .refl hr1 rfl⟩
  · exact p1.elim
/-- a value as a test -/
theorem sim_tV {e : Expr} {m : ME} (h : SimE T X W e m) (he : ∀ whole, isTrue e X.env whole = (do let v ← whole; standAt e.pos; holding [v] (truthy v)) := by intro _; rfl) : SimT T X W e (mT m) :=
  PT.weak (pt_val h he) fun _ _ _ q => tr_bT q
/-- a comparison as a test -/
theorem simT_cmp {op : CmpOp} {f : Vl → Vl → Hs → Rs Vl} {r : R2} {ea eb : Expr} {a b : ME} {pos : Pos} (ho : OpR X (compareOp op) r) (hf : Op2 T X.K f r) (hm : behindInMarks op eb = false) (ha : SimE T X W ea a) (hb : SimE T X W eb b) : SimT T X W (.Compare ea [op] [eb] pos) (mT (m2 f a b)) :=
  PT.weak (pt_cmpR ho ha hb hm) fun _ _ _ h => tr_op hf (tr_bT h)
section
variable {ea eb : Expr} {a b : ME} {pos pos' : Pos} {k j : Nat}
theorem simT_lt (ha : SimE T X W ea a) (hb : SimE T X W eb b) : SimT T X W (.Compare ea [.Lt] [eb] pos) (mT (m2 fLt a b)) := simT_cmp op_lt (s_I0 fun _ _ _ _ => .bl _) (nomark _) ha hb
theorem simT_le (ha : SimE T X W ea a) (hb : SimE T X W eb b) : SimT T X W (.Compare ea [.LtE] [eb] pos) (mT (m2 fLe a b)) := simT_cmp op_le (s_I0 fun _ _ _ _ => .bl _) (nomark _) ha hb
theorem simT_gt (ha : SimE T X W ea a) (hb : SimE T X W eb b) : SimT T X W (.Compare ea [.Gt] [eb] pos) (mT (m2 fGt a b)) := simT_cmp op_gt (s_I0 fun _ _ _ _ => .bl _) (nomark _) ha hb
theorem simT_ge (ha : SimE T X W ea a) (hb : SimE T X W eb b) : SimT T X W (.Compare ea [.GtE] [eb] pos) (mT (m2 fGe a b)) := simT_cmp op_ge (s_I0 fun _ _ _ _ => .bl _) (nomark _) ha hb
theorem simT_eq (hr : Room k X.A) (ha : SimE T X W ea a) (hb : SimE T X W eb b) : SimT T X W (.Compare ea [.Eq] [eb] pos) (mT (m2 (fEqD false) a b)) := simT_cmp (op_eqD hr.units) s_eq (nomark _) ha hb
theorem simT_ne (hr : Room k X.A) (ha : SimE T X W ea a) (hb : SimE T X W eb b) : SimT T X W (.Compare ea [.NotEq] [eb] pos) (mT (m2 (fEqD true) a b)) := simT_cmp (op_neD hr.units) s_ne (nomark _) ha hb
theorem simT_isN (ha : SimE T X W ea a) : SimT T X W (.Compare ea [.Is] [.Constant .none j pos'] pos) (mT (m1 (fIsN false) a)) := by
  refine PT.weak (pt_cmp (pc_isN ha)) fun σ H Q h => ?_
  obtain ⟨S, M, h, sr, hr, p⟩ := tr_bT h
  refine tr_then sr hr p fun v h1 M1 H1 x e1 sr1 hr1 r1 p1 => ?_
  rw [r1.non_iff]
  exact p1.ret .refl hr1 (.p (.bl _))
theorem simT_notN (ha : SimE T X W ea a) : SimT T X W (.Compare ea [.IsNot] [.Constant .none j pos'] pos) (mT (m1 (fIsN true) a)) := by
  refine PT.weak (pt_cmp (pc_notN ha)) fun σ H Q h => ?_
  obtain ⟨S, M, h, sr, hr, p⟩ := tr_bT h
  refine tr_then sr hr p fun v h1 M1 H1 x e1 sr1 hr1 r1 p1 => ?_
  rw [r1.non_iff]
  exact p1.ret .refl hr1 (.p (.bl _))
end
theorem trT_then {m : MT} {k : Bool → Hs → Rs Bool} {S : Sl} {M : Trk} {h : Hs} {σ : L2.St} {H : Hp} {Q G : Bool → Hp → Prop} (sr : SR T X.K M H S σ) (hr : HR T X.K M H h)
    (p : post T X.K Req M H (erAt T W σ) Q (bnd (m S h) k))
    (f : ∀ v h1 M1 H1, Ext M H M1 H1 → SR T X.K M1 H1 S σ → HR T X.K M1 H1 h1 → post T X.K Req M1 H1 (erAt T W σ) Q (k v h1) → G v H1) : trT T X.K W m σ H G :=
  ⟨S, M, h, sr, hr, p.bnd fun v h1 M1 H1 x e hr1 r q => by
    cases (r : v = x)
    exact f v h1 M1 H1 e (sr.ext e) hr1 q⟩
theorem trT_thenV {β γ : Type} {R : Trk → Hp → β → γ → Prop} {m : MT} {k : Bool → Hs → Rs β} {S : Sl} {M : Trk} {h : Hs} {σ : L2.St} {H : Hp} {Q : γ → Hp → Prop} {G : Bool → Hp → Prop} (sr : SR T X.K M H S σ) (hr : HR T X.K M H h)
    (p : post T X.K R M H (erAt T W σ) Q (bnd (m S h) k))
    (f : ∀ v h1 M1 H1, Ext M H M1 H1 → SR T X.K M1 H1 S σ → HR T X.K M1 H1 h1 → post T X.K R M1 H1 (erAt T W σ) Q (k v h1) → G v H1) : trT T X.K W m σ H G :=
  ⟨S, M, h, sr, hr, p.bnd fun v h1 M1 H1 x e hr1 r q => by
    cases (r : v = x)
    exact f v h1 M1 H1 e (sr.ext e) hr1 q⟩
def mNotT (t : MT) : MT := fun S h => bnd (t S h) fun b h1 => ret (!b) h1
theorem simT_not {e : Expr} {t : MT} {pos : Pos} (h : SimT T X W e t) : SimT T X W (.UnaryOp .Not e pos) (mNotT t) :=
  PT.weak (pt_not h) fun σ H Q ⟨S, M, h, sr, hr, p⟩ => trT_then sr hr p fun v h1 M1 H1 e1 sr1 hr1 p1 => p1.ret .refl hr1 rfl
abbrev SimW (T : Tb) (X : Cx) (W : WX) (e : Expr) (t : MT) : Prop := PW X e (trT T X.K W t)
theorem PW.weak {e : Expr} {t t' : TT} (h : PW X e t) (f : ∀ σ H Q, t' σ H Q → t σ H Q) : PW X e t' := ⟨fun wh pins s σ H Q I q => h.run wh pins s σ H Q I (f σ H Q q)⟩
def mAndT (a b : MT) : MT := fun S h => bnd (a S h) fun c h1 => if c = true then b S h1 else ret false h1
def mOrT (a b : MT) : MT := fun S h => bnd (a S h) fun c h1 => if c = true then ret true h1 else b S h1
section
variable {a b : Expr} {rest : List Expr} {ta tb : MT} {pos : Pos}
theorem simW_and1 (ha : SimT T X W a ta) : SimW T X W (.BoolOp .And [a] pos) ta := pw_and1 ha
theorem simW_or1 (ha : SimT T X W a ta) : SimW T X W (.BoolOp .Or [a] pos) ta := pw_or1 ha
theorem simW_and (ha : SimT T X W a ta) (hb : SimW T X W (.BoolOp .And (b :: rest) pos) tb) : SimW T X W (.BoolOp .And (a :: b :: rest) pos) (mAndT ta tb) := by
  refine PW.weak (pw_and ha hb) fun σ H Q ⟨S, M, h, sr, hr, p⟩ => trT_then sr hr p fun v h1 M1 H1 e1 sr1 hr1 p1 => ?_
  cases v with
  | true => exact ⟨S, M1, h1, sr1, hr1, p1⟩
  | false => exact p1.ret .refl hr1 rfl
theorem simW_or (ha : SimT T X W a ta) (hb : SimW T X W (.BoolOp .Or (b :: rest) pos) tb) : SimW T X W (.BoolOp .Or (a :: b :: rest) pos) (mOrT ta tb) := by
  refine PW.weak (pw_or ha hb) fun σ H Q ⟨S, M, h, sr, hr, p⟩ => trT_then sr hr p fun v h1 M1 H1 e1 sr1 hr1 p1 => ?_
  cases v with
  | true => exact p1.ret .refl hr1 rfl
  | false => exact ⟨S, M1, h1, sr1, hr1, p1⟩
theorem simT_W {e : Expr} {t : MT} (h : SimW T X W e t) : SimT T X W e t := h.pt
/-! as values -/
def mAnd (a b : ME) : ME := fun S h => bnd (a S h) fun v h1 => match v with
  | .p (.bl c) => if c = true then b S h1 else ret (.p (.bl false)) h1
  | _ => none
def mOr (a b : ME) : ME := fun S h => bnd (a S h) fun v h1 => match v with
  | .p (.bl c) => if c = true then ret (.p (.bl true)) h1 else b S h1
  | _ => none
def mNot (a : ME) : ME := fun S h => bnd (a S h) fun v h1 => match v with
  | .p (.bl c) => ret (.p (.bl (!c))) h1
  | _ => none
variable {ma mb : ME}
theorem sim_one {op : BoolOp} (ha : SimE T X W a ma) : SimE T X W (.BoolOp op [a] pos) ma := pe_one ha
theorem sim_and (ha : SimE T X W a ma) (hb : SimE T X W (.BoolOp .And (b :: rest) pos) mb) : SimE T X W (.BoolOp .And (a :: b :: rest) pos) (mAnd ma mb) := by
  refine PE.weak (pe_and ha hb) fun σ H Q ⟨S, M, h, sr, hr, p⟩ => tr_then sr hr p fun v h1 M1 H1 x e1 sr1 hr1 r1 p1 => ?_
  split at p1
  · cases r1 with
    | p r =>
      cases r
      refine ⟨_, rfl, ?_⟩
      rename_i c
      cases c with
      | true => exact ⟨S, M1, h1, sr1, hr1, p1⟩
      | false => exact p1.ret .refl hr1 (.p (.bl _))
  · exact p1.elim
theorem sim_or (ha : SimE T X W a ma) (hb : SimE T X W (.BoolOp .Or (b :: rest) pos) mb) : SimE T X W (.BoolOp .Or (a :: b :: rest) pos) (mOr ma mb) := by
  refine PE.weak (pe_or ha hb) fun σ H Q ⟨S, M, h, sr, hr, p⟩ => tr_then sr hr p fun v h1 M1 H1 x e1 sr1 hr1 r1 p1 => ?_
  split at p1
  · cases r1 with
    | p r =>
      cases r
      refine ⟨_, rfl, ?_⟩
      rename_i c
      cases c with
      | true => exact p1.ret .refl hr1 (.p (.bl _))
      | false => exact ⟨S, M1, h1, sr1, hr1, p1⟩
  · exact p1.elim
theorem sim_not (ha : SimE T X W a ma) : SimE T X W (.UnaryOp .Not a pos) (mNot ma) := by
  refine PE.weak (pe_not ha) fun σ H Q ⟨S, M, h, sr, hr, p⟩ => tr_then sr hr p fun v h1 M1 H1 x e1 sr1 hr1 r1 p1 => ?_
  split at p1
  · cases r1 with
    | p r =>
      cases r
      exact ⟨_, rfl, p1.ret .refl hr1 (.p (.bl _))⟩
  · exact p1.elim
def mIf (c : MT) (a b : ME) : ME := fun S h => bnd (c S h) fun k h1 => if k = true then a S h1 else b S h1
theorem sim_if {c : Expr} {tc : MT} (hc : SimT T X W c tc) (ha : SimE T X W a ma) (hb : SimE T X W b mb) : SimE T X W (.IfExp c a b pos) (mIf tc ma mb) := by
  refine PE.weak (pe_ifExp hc ha hb) fun σ H Q ⟨S, M, h, sr, hr, p⟩ => trT_thenV sr hr p fun v h1 M1 H1 e1 sr1 hr1 p1 => ?_
  cases v with
  | true => exact ⟨S, M1, h1, sr1, hr1, p1⟩
  | false => exact ⟨S, M1, h1, sr1, hr1, p1⟩
end

/-! ### displays -/
theorem trA_then {β γ : Type} {R : Trk → Hp → β → γ → Prop} {m : MA} {k : List Vl → Hs → Rs β} {S : Sl} {M : Trk} {h : Hs} {σ : L2.St} {H : Hp} {Q : γ → Hp → Prop} {G : List V → Hp → Prop} (sr : SR T X.K M H S σ) (hr : HR T X.K M H h)
    (p : post T X.K R M H (erAt T W σ) Q (bnd (m S h) k))
    (f : ∀ vs h1 M1 H1 xs, Ext M H M1 H1 → SR T X.K M1 H1 S σ → HR T X.K M1 H1 h1 → RVA T X.K M1 H1 vs xs → post T X.K R M1 H1 (erAt T W σ) Q (k vs h1) → G xs H1) : trA T X.K W m σ H G :=
  ⟨S, M, h, sr, hr, p.bnd fun v h1 M1 H1 x e hr1 r q => f v h1 M1 H1 x e (sr.ext e) hr1 r q⟩
/-- all are data -/
def pures : List Vl → Option (List P)
  | [] => some []
  | .p d :: vs => match pures vs with
    | some ds => some (d :: ds)
    | none => none
  | .ref _ :: _ => none
theorem RVA.pures {K : PySem.W.Frag} {M : Trk} {H : Hp} : ∀ {vs : List Vl} {xs : List V} {ds : List P}, RVA T K M H vs xs → EV.pures vs = some ds → RpA T K M H ds xs
  | _, _, _, .nil, e => by simp only [EV.pures, Option.some.injEq] at e; subst e; exact .nil
  | _, _, _, .cons (.p hd) (ds := vs) r, e => by
    simp only [EV.pures] at e
    cases q : EV.pures vs with
    | none => rw [q] at e; cases e
    | some l => rw [q] at e; cases e; exact .cons hd (RVA.pures r q)
  | _, _, _, .cons (.ref _) r, e => by simp [EV.pures] at e
def kTupD (vs : List Vl) (h : Hs) : Rs Vl := match pures vs with
  | some ds => if ds.length ≤ 16777216 then ret (.p (.tup ds)) h else none
  | none => none
def kLstD (vs : List Vl) (h : Hs) : Rs Vl := match pures vs with
  | some ds => if ds.length ≤ 16777216 then ret (.p (.lst ds)) h else none
  | none => none
/-- a list that will be changed: tracked -/
def kLstT (vs : List Vl) (h : Hs) : Rs Vl := match pures vs with
  | some ds => if ds.length ≤ 16777216 then ret (.ref h.length) (h ++ [.lst ds]) else none
  | none => none
def mAll (k : List Vl → Hs → Rs Vl) (a : MA) : ME := fun S h => bnd (a S h) k
section
variable {es : List Expr} {a : MA} {pos : Pos} {x1 : Nat}
theorem sim_tup (ha : SimA T X W es a) : SimE T X W (.Tuple es x1 pos) (mAll kTupD a) := by
  refine PE.weak (pe_tup ha) fun σ H Q ⟨S, M, h, sr, hr, p⟩ => trA_then sr hr p fun vs h1 M1 H1 xs e1 sr1 hr1 r1 p1 => ?_
  unfold kTupD at p1
  split at p1
  · rename_i ds q
    have r := r1.pures q
    split at p1
    · rename_i hz
      exact ⟨by rw [← r.length]; exact le_line hz, fun q hq => p1.ret (.fresh hq) (hr1.fresh hq) (new_tup hr1 hq r)⟩
    · exact p1.elim
  · exact p1.elim
theorem sim_lst (ha : SimA T X W es a) : SimE T X W (.List es pos) (mAll kLstD a) := by
  refine PE.weak (pe_lst ha) fun σ H Q ⟨S, M, h, sr, hr, p⟩ => trA_then sr hr p fun vs h1 M1 H1 xs e1 sr1 hr1 r1 p1 => ?_
  unfold kLstD at p1
  split at p1
  · rename_i ds q
    have r := r1.pures q
    split at p1
    · rename_i hz
      exact ⟨by rw [← r.length]; exact le_line hz, fun q hq => p1.ret (.fresh hq) (hr1.fresh hq) (new_lst hr1 hq r)⟩
    · exact p1.elim
  · exact p1.elim
theorem HR.newest {K : PySem.W.Frag} {M : Trk} {H : Hp} {h : Hs} (hr : HR T K M H h) (q : Addr) : (M.add q).tk[h.length]? = some q := by
  rw [List.getElem?_append_right (by rw [hr.len]; exact Nat.le_refl _), hr.len, Nat.sub_self]; rfl
theorem sim_lstT (ha : SimA T X W es a) : SimE T X W (.List es pos) (mAll kLstT a) := by
  refine PE.weak (pe_lst ha) fun σ H Q ⟨S, M, h, sr, hr, p⟩ => trA_then sr hr p fun vs h1 M1 H1 xs e1 sr1 hr1 r1 p1 => ?_
  unfold kLstT at p1
  split at p1
  · rename_i ds q
    have r := r1.pures q
    split at p1
    · rename_i hz
      exact ⟨by rw [← r.length]; exact le_line hz, fun q hq => p1.ret (.track hq) (trk_lst hr1 hq r) (.ref (hr1.newest q))⟩
    · exact p1.elim
  · exact p1.elim
/-- *e among the parts -/
def seqP (v : Vl) : Option (List P) := match v with
  | .p (.tup ds) => some ds
  | .p (.lst ds) => some ds
  | .p (.scr ds) => some ds
  | _ => none
def aStar (e : ME) (r : MA) : MA := fun S h => bnd (e S h) fun v h1 => match seqP v with
  | some ds => bnd (r S h1) fun vs h2 => ret (ds.map Vl.p ++ vs) h2
  | none => none
theorem RpA.vls {K : PySem.W.Frag} {M : Trk} {H : Hp} : ∀ {ds : List P} {xs : List V}, RpA T K M H ds xs → RVA T K M H (ds.map Vl.p) xs
  | _, _, .nil => .nil
  | _, _, .cons h r => .cons (.p h) (RpA.vls r)
theorem RVA.append {K : PySem.W.Frag} {M : Trk} {H : Hp} : ∀ {ds es : List Vl} {vs ws : List V}, RVA T K M H ds vs → RVA T K M H es ws → RVA T K M H (ds ++ es) (vs ++ ws)
  | _, _, _, _, .nil, s => s
  | _, _, _, _, .cons h r, s => .cons h (RVA.append r s)
theorem RV.seqP {K : PySem.W.Frag} {M : Trk} {H : Hp} {v : Vl} {x : V} {ds : List P} (r : RV T K M H v x) (e : EV.seqP v = some ds) : ∃ a xs, x = .ref a ∧ (SqT K H a xs ∨ SqL K H a xs) ∧ RpA T K M H ds xs := by
  unfold EV.seqP at e
  split at e
  · cases e
    cases r with | p r => cases r with | tup h r => exact ⟨_, _, rfl, .inl h.sqT, r⟩
  · cases e
    cases r with | p r => cases r with | lst h _ r => exact ⟨_, _, rfl, .inr (.of h), r⟩
  · cases e
    cases r with | p r => cases r with | scr h r => exact ⟨_, _, rfl, .inr h.sqL, r⟩
  · cases e
theorem sim_star {e : Expr} {m : ME} {r : MA} {p : Pos} (he : SimE T X W e m) (hr : SimA T X W es r) (hs : starEach (.Starred e p :: es) X.env = (true, eval e X.env) :: starEach es X.env := by rfl) : SimA T X W (.Starred e p :: es) (aStar m r) := by
  refine PA.weak (StX.pa_star he hr hs) fun σ H Q ⟨S, M, h, sr, hr, p⟩ => ?_
  refine ⟨S, M, h, sr, hr, p.bnd fun v h1 M1 H1 x e1 hr1 r1 p1 => ?_⟩
  split at p1
  · rename_i ds q
    obtain ⟨a, xs, rfl, hs, ra⟩ := r1.seqP q
    refine ⟨a, xs, rfl, hs, S, M1, h1, sr.ext e1, hr1, p1.bnd fun vs h2 M2 H2 ys e2 hr2 r2 p2 => ?_⟩
    exact p2.ret .refl hr2 (RVA.append (RpA.vls (ra.ext e2)) r2)
  · exact p1.elim
end
end
end EV
end T2
section T3
set_option Elab.async false
set_option linter.all false
set_option maxRecDepth 100000
namespace EV
open PySem PySem.Spec PyProof.Rows L2

section
variable {T : Tb} {X : Cx} {W : WX}
/-! ### what stands in a sequence -/
def seqV (v : Vl) (h : Hs) : Option (List P) := match v with
  | .p d => seqP (.p d)
  | .ref n => match h[n]? with
    | some (.lst ds) => some ds
    | _ => none
theorem RV.seqV {K : PySem.W.Frag} {M : Trk} {H : Hp} {h : Hs} {v : Vl} {x : V} {ds : List P} (hr : HR T K M H h) (r : RV T K M H v x) (e : EV.seqV v h = some ds) : ∃ a xs, x = .ref a ∧ (SqL K H a xs ∨ SqT K H a xs) ∧ RpA T K M H ds xs := by
  unfold EV.seqV at e
  split at e
  · obtain ⟨a, xs, e1, e2, e3⟩ := r.seqP e
    exact ⟨a, xs, e1, e2.symm, e3⟩
  · cases r with
    | ref q =>
      obtain ⟨p, hp, c⟩ := hr.got q
      rw [hp] at e
      cases c with
      | lst z r => cases e; exact ⟨_, _, rfl, .inl (.of z), r⟩
      | ins _ _ _ => cases e
/-! ### xs[i] -/
def fIdx (v w : Vl) (h : Hs) : Rs Vl := match seqV v h, w with
  | some ds, .p (.int i) => match ixN ds.length i with
    | some j => match ds[j]? with
      | some d => ret (.p d) h
      | none => none
    | none => none
  | _, _ => none
abbrev rIx2 (K : PySem.W.Frag) : R2 := fun x y H Q => rIxL K x y H Q ∨ rIxT K x y H Q
theorem s_idx : Op2 T X.K fIdx (rIx2 X.K) := by
  intro M H h v w x y Er Q hr rx ry p
  unfold fIdx at p
  split at p
  · rename_i ds i q
    obtain ⟨a, xs, rfl, hs, ra⟩ := rx.seqV hr q
    split at p
    · rename_i j hj
      split at p
      · rename_i d hd
        obtain ⟨u, hu, ru⟩ := ra.get hd
        cases ry with | p ry =>
        cases ry
        have hat : atI xs i = some u := by
          unfold atI
          rw [← ra.length, hj]
          exact hu
        rcases hs with hs | hs
        · exact .inl ⟨a, xs, i, u, rfl, rfl, hs, hat, p.ret .refl hr (.p ru)⟩
        · exact .inr ⟨a, xs, i, u, rfl, rfl, hs, hat, p.ret .refl hr (.p ru)⟩
      · exact p.elim
    · exact p.elim
  · exact p.elim
theorem sim_idx {ea eb : Expr} {a b : ME} {pos : Pos} (ha : SimE T X W ea a) (hb : SimE T X W eb b) (hs : PlainIx eb := by exact fun _ _ => rfl) : SimE T X W (.Subscript ea eb pos) (m2 fIdx a b) :=
  PE.weak (pe_ix (ix_list.or ix_tup) ha hb hs) fun _ _ _ h => tr_op s_idx h

/-! ### slices -/
abbrev MO := Sl → Hs → Rs (Option Int)
def trO (T : Tb) (K : PySem.W.Frag) (W : WX) (m : MO) : TO := fun σ H Q => ∃ S M h, SR T K M H S σ ∧ HR T K M H h ∧ post T K Req M H (erAt T W σ) Q (m S h)
abbrev SimO (T : Tb) (X : Cx) (W : WX) (e : Option Expr) (m : MO) : Prop := PO X e (trO T X.K W m)
def oNone : MO := fun _ h => ret none h
def oSome (m : ME) : MO := fun S h => bnd (m S h) fun v h1 => match v with
  | .p (.int i) => ret (some i) h1
  | _ => none
theorem sim_oNone : SimO T X W none oNone := ⟨fun pins s σ H Q I ⟨_, _, _, _, hr, p⟩ => po_none.run pins s σ H Q I (p.ret .refl hr rfl)⟩
theorem sim_oSome {e : Expr} {m : ME} (h : SimE T X W e m) : SimO T X W (some e) (oSome m) := by
  refine ⟨fun pins s σ H Q I ⟨S, M, h', sr, hr, p⟩ => (po_some h).run pins s σ H Q I ?_⟩
  refine ⟨S, M, h', sr, hr, p.bnd fun v h1 M1 H1 x e1 hr1 r1 p1 => ?_⟩
  split at p1
  · cases r1 with | p r => cases r; exact ⟨_, rfl, p1.ret .refl hr1 rfl⟩
  · exact p1.elim
def cutP (ds : List P) (lo hi : Option Int) : List P := (ds.drop (HT.sIx ds.length 0 lo)).take (HT.sIx ds.length ds.length hi - HT.sIx ds.length 0 lo)
theorem RpA.cut {K : PySem.W.Frag} {M : Trk} {H : Hp} {ds : List P} {xs : List V} (r : RpA T K M H ds xs) (lo hi : Option Int) : RpA T K M H (cutP ds lo hi) (cutV xs lo hi) := by
  unfold cutP cutV
  rw [r.length]
  exact (r.drop _).take _
theorem cut_whole {ds : List P} {lo hi : Option Int} (h : HT.sIx ds.length 0 lo = 0 ∧ HT.sIx ds.length ds.length hi = ds.length) : cutP ds lo hi = ds := by
  unfold cutP
  rw [h.1, h.2]
  simp
def fCut (v : Vl) (lo hi : Option Int) (h : Hs) : Rs Vl := match v with
  | .p (.tup ds) => ret (.p (.tup (cutP ds lo hi))) h
  | .p (.lst ds) => ret (.p (.lst (cutP ds lo hi))) h
  | .p (.str x) => if x.length ≤ 16777216 then ret (.p (.str (cutS x lo hi))) h else none
  | .ref n => match h[n]? with
    | some (.lst ds) => ret (.p (.lst (cutP ds lo hi))) h
    | _ => none
  | _ => none
def mCut (m : ME) (lo hi : MO) : ME := fun S h => bnd (m S h) fun v h1 => bnd (lo S h1) fun l h2 => bnd (hi S h2) fun u h3 => fCut v l u h3
abbrev rSl3 (K : PySem.W.Frag) : V → Option Int → Option Int → Hp → VK → Prop := fun x lo hi H Q => rSlA K x lo hi H Q ∨ (rSlL K x lo hi H Q ∨ rSlS x lo hi H Q)
theorem s_cut {M : Trk} {H : Hp} {h : Hs} {v : Vl} {x : V} {lo hi : Option Int} {Er : Exn → Hp → Prop} {Q : VK} (hr : HR T X.K M H h) (rx : RV T X.K M H v x) (p : post T X.K (RV T X.K) M H Er Q (fCut v lo hi h)) : rSl3 X.K x lo hi H Q := by
  unfold fCut at p
  split at p
  · cases rx with | p rx => cases rx with | tup tx ra =>
    refine .inl ⟨_, _, rfl, tx.sqT, fun e => ?_, fun e q hq => ?_⟩
    · rw [cut_whole (by rw [ra.length]; exact e)] at p
      exact p.ret .refl hr (.p (.tup tx ra))
    · exact p.ret (.fresh hq) (hr.fresh hq) (new_tup hr hq (ra.cut lo hi))
  · cases rx with | p rx => cases rx with | lst tx nx ra =>
    exact .inr (.inl ⟨_, _, rfl, .of tx, fun q hq => p.ret (.fresh hq) (hr.fresh hq) (new_lst hr hq (ra.cut lo hi))⟩)
  · split at p
    · rename_i hz
      cases rx with
      | p rx =>
        cases rx
        exact .inr (.inr ⟨_, rfl, le_line hz, p.ret .refl hr (.p (.str _))⟩)
    · exact p.elim
  · cases rx with
    | ref q =>
      obtain ⟨d, hp, c⟩ := hr.got q
      rw [hp] at p
      cases c with
      | lst z ra => exact .inr (.inl ⟨_, _, rfl, .of z, fun q hq => p.ret (.fresh hq) (hr.fresh hq) (new_lst hr hq (ra.cut lo hi))⟩)
      | ins _ _ _ => exact p.elim
  · exact p.elim
theorem sim_cut {e : Expr} {lo hi : Option Expr} {m : ME} {ml mh : MO} {p2 pos : Pos} (he : SimE T X W e m) (hl : SimO T X W lo ml) (hh : SimO T X W hi mh) : SimE T X W (.Subscript e (.Slice lo hi none p2) pos) (mCut m ml mh) := by
  refine PE.weak (pe_slice (sl_tupA.or (sl_list.or sl_str)) he hl hh) fun σ H Q ⟨S, M, h, sr, hr, p⟩ => ?_
  refine tr_then sr hr p fun v h1 M1 H1 x e1 sr1 hr1 r1 p1 => ?_
  refine ⟨S, M1, h1, sr1, hr1, p1.bnd fun l h2 M2 H2 l' e2 hr2 r2 p2 => ?_⟩
  cases (r2 : l = l')
  refine ⟨S, M2, h2, sr1.ext e2, hr2, p2.bnd fun u h3 M3 H3 u' e3 hr3 r3 p3 => ?_⟩
  cases (r3 : u = u')
  exact s_cut hr3 ((r1.ext e2).ext e3) p3

/-! ### in, not in -/
theorem room65 {k : Nat} (hr : Room k X.A) : X.A.units + 65 < cLine := by
  have := hr.un
  omega
def rInTp (K : PySem.W.Frag) (neg : Bool) : R2 := fun x y H Q => ∃ d ds, Dp K H x d ∧ Dp K H y (.tuple ds) ∧ SeqAt.shaped d = true ∧ SeqAt.shaped (.tuple ds) = true ∧ Q (.bl (if neg then !ds.any (fun z => PyData.eqv z d) else ds.any fun z => PyData.eqv z d)) H
theorem op_inTp (hu : X.A.units + 65 < cLine) : OpR X (compareOp .In) (rInTp X.K false) := by
  rintro pins s σ H x y v u Q I rx ry ⟨d, ds, hd, hy, s1, s2, q⟩
  obtain ⟨as, r1⟩ := Dp.reads I d x v hd rx
  obtain ⟨bs, r2⟩ := Dp.reads I (.tuple ds) y u hy ry
  exact SeqAt.in_tuple_reads r2 r1 (SeqAt.canLay_of_shaped s2) (SeqAt.canLay_of_shaped s1) (room_in_shaped s1 hu) ⟨.bl _, H, I, rfl, q⟩
theorem op_notInTp (hu : X.A.units + 65 < cLine) : OpR X (compareOp .NotIn) (rInTp X.K true) := by
  rintro pins s σ H x y v u Q I rx ry ⟨d, ds, hd, hy, s1, s2, q⟩
  obtain ⟨as, r1⟩ := Dp.reads I d x v hd rx
  obtain ⟨bs, r2⟩ := Dp.reads I (.tuple ds) y u hy ry
  exact SeqAt.notIn_tuple_reads r2 r1 (SeqAt.canLay_of_shaped s2) (SeqAt.canLay_of_shaped s1) (room_in_shaped s1 hu) ⟨.bl _, H, I, rfl, q⟩
def fIn (neg : Bool) (v w : Vl) (h : Hs) : Rs Vl := match pyV v h, pyV w h with
  | some d, some (.list ds) => if SeqAt.shaped d = true ∧ SeqAt.shaped (.list ds) = true then pB (if neg then !ds.any (fun z => PyData.eqv z d) else ds.any fun z => PyData.eqv z d) h else none
  | some d, some (.tuple ds) => if SeqAt.shaped d = true ∧ SeqAt.shaped (.tuple ds) = true then pB (if neg then !ds.any (fun z => PyData.eqv z d) else ds.any fun z => PyData.eqv z d) h else none
  | _, _ => none
theorem s_in : Op2 T X.K (fIn false) (fun x y H Q => rInD X.K x y H Q ∨ rInTp X.K false x y H Q) := by
  intro M H h v w x y Er Q hr rx ry p
  unfold fIn at p
  split at p
  · rename_i d ds q1 q2
    split at p
    · rename_i hs
      exact .inl ⟨d, ds, rx.dp hr q1, ry.dp hr q2, hs.1, hs.2, p.ret .refl hr (.p (.bl _))⟩
    · exact p.elim
  · rename_i d ds q1 q2
    split at p
    · rename_i hs
      exact .inr ⟨d, ds, rx.dp hr q1, ry.dp hr q2, hs.1, hs.2, p.ret .refl hr (.p (.bl _))⟩
    · exact p.elim
  · exact p.elim
theorem s_notIn : Op2 T X.K (fIn true) (fun x y H Q => rNotInD X.K x y H Q ∨ rInTp X.K true x y H Q) := by
  intro M H h v w x y Er Q hr rx ry p
  unfold fIn at p
  split at p
  · rename_i d ds q1 q2
    split at p
    · rename_i hs
      exact .inl ⟨d, ds, rx.dp hr q1, ry.dp hr q2, hs.1, hs.2, p.ret .refl hr (.p (.bl _))⟩
    · exact p.elim
  · rename_i d ds q1 q2
    split at p
    · rename_i hs
      exact .inr ⟨d, ds, rx.dp hr q1, ry.dp hr q2, hs.1, hs.2, p.ret .refl hr (.p (.bl _))⟩
    · exact p.elim
  · exact p.elim
section
variable {ea eb : Expr} {a b : ME} {pos : Pos} {k : Nat}
theorem sim_in (hr : Room k X.A) (ha : SimE T X W ea a) (hb : SimE T X W eb b) (hm : behindInMarks .In eb = false := by rfl) : SimE T X W (.Compare ea [.In] [eb] pos) (m2 (fIn false) a b) := sim_cmp ((op_inD (room65 hr)).or (op_inTp (room65 hr))) s_in hm ha hb
theorem sim_notIn (hr : Room k X.A) (ha : SimE T X W ea a) (hb : SimE T X W eb b) (hm : behindInMarks .NotIn eb = false := by rfl) : SimE T X W (.Compare ea [.NotIn] [eb] pos) (m2 (fIn true) a b) := sim_cmp ((op_notInD (room65 hr)).or (op_notInTp (room65 hr))) s_notIn hm ha hb
theorem simT_in (hr : Room k X.A) (ha : SimE T X W ea a) (hb : SimE T X W eb b) (hm : behindInMarks .In eb = false := by rfl) : SimT T X W (.Compare ea [.In] [eb] pos) (mT (m2 (fIn false) a b)) := simT_cmp ((op_inD (room65 hr)).or (op_inTp (room65 hr))) s_in hm ha hb
theorem simT_notIn (hr : Room k X.A) (ha : SimE T X W ea a) (hb : SimE T X W eb b) (hm : behindInMarks .NotIn eb = false := by rfl) : SimT T X W (.Compare ea [.NotIn] [eb] pos) (mT (m2 (fIn true) a b)) := simT_cmp ((op_notInD (room65 hr)).or (op_notInTp (room65 hr))) s_notIn hm ha hb
end

/-! ### calls of the text's own defs -/
abbrev FnsT := Nat → List Vl → Hs → Rs Vl
/-- what the i-th def promises -/
def spF (T : Tb) (K : PySem.W.Frag) (f : List Vl → Hs → Rs Vl) : Sp := fun vs H Q E => ∃ args M h, RVA T K M H args vs ∧ HR T K M H h ∧ post T K (RV T K) M H (erX T E) Q (f args h)
/-- a def as a callee -/
structure Fn (T : Tb) (X : Cx) (k : Nat) (x : Str) (f : List Vl → Hs → Rs Vl) : Prop where
  ex : ∃ a, FnR X.prog X.w X.K X.mg X.base (L2.CX X.prog X.w) k a (spF T X.K f) ∧ PySem.W.keepIn X.K (.ref a) = true ∧ X.mg x = some (.ref a)
theorem run_own {k : Nat} {a : Addr} {f : List Vl → Hs → Rs Vl} (F : FnR X.prog X.w X.K X.mg X.base (L2.CX X.prog X.w) k a (spF T X.K f)) (tk : Takes X W) (hr : Room k X.A) {pins : List (Addr × Obj)} {σ : L2.St} {H : Hp} {s : Shared} {Q : VK} {us : List Value} {vs : List V} (I : Inv X pins σ H s) (r : Vals vs us)
    (h : spF T X.K f vs H Q (fun c d H' => W c d σ H')) : wpAny (model X.prog X.w) X.A (call (.ref a) us) (EP X pins σ Q) X.xe s := by
  refine wpAny_call (codeAny_mono (F X.A X.stack s H us vs Q _ hr I.env0 r h) fun r s' hq => ?_)
  cases r with
  | error e => exact tk e s' (XE.of_call I (fun _ _ _ h => h) hq)
  | ok fl =>
    cases fl with
    | ret u => exact I.after hq
    | next => exact False.elim hq
    | brk => exact False.elim hq
    | cont => exact False.elim hq
theorem trA_spF {f : List Vl → Hs → Rs Vl} {a : MA} {σ : L2.St} {H : Hp} {Q : VK} (h : tr T X.K W (mAll f a) σ H Q) : trA T X.K W a σ H (fun vs H1 => spF T X.K f vs H1 Q (fun c d H' => W c d σ H')) := by
  obtain ⟨S, M, h, sr, hr, p⟩ := h
  exact trA_then sr hr p fun vs h1 M1 H1 xs e1 sr1 hr1 r1 p1 => ⟨vs, M1, h1, r1, hr1, p1⟩
section
variable {x : Str} {p pos : Pos} {e : Expr} {es : List Expr} {a : MA} {k : Nat} {f : List Vl → Hs → Rs Vl}
theorem sim_call (F : Fn T X k x f) (tk : Takes X W) (hr : Room k X.A) (hg : Gl X x) (ha : SimA T X W (e :: es) a) (hd : (x == ("__debug__" : Str)) = false := by decide)
    (he : starEach (e :: es) X.env = (false, eval e X.env) :: starEach es X.env := by rfl) (hpl : (backTo pos (starEach es X.env)).any (·.1) = false := by rfl) : SimE T X W (.Call (.Name x p) (e :: es) [] pos) (mAll f a) := by
  obtain ⟨ad, F, kp, hm⟩ := F.ex
  refine ⟨fun pins s σ H Q I h => wpAny_Call_Name_kw (ld_glob I hg hm ?_ hd)⟩
  refine PySem.W.callWith_K (h₀ := X.base) I.ok.mod.kin kp (thn (ha.run pos pins s σ H _ I (trA_spF h)) fun us s1 ⟨vs, H1, I1, r, q⟩ => ⟨I1.kIn, ?_⟩) he hpl
  exact run_own F tk hr I1 r q
theorem sim_call0 (F : Fn T X k x f) (tk : Takes X W) (hr : Room k X.A) (hg : Gl X x) (hd : (x == ("__debug__" : Str)) = false := by decide) : SimE T X W (.Call (.Name x p) [] [] pos) (mAll f aNil) := by
  obtain ⟨ad, F, kp, hm⟩ := F.ex
  refine ⟨fun pins s σ H Q I h => wpAny_Call_Name_kw (ld_glob I hg hm ?_ hd)⟩
  refine PySem.W.callWith_K0 I.kIn kp ?_
  obtain ⟨S, M, h', sr, hr', pp⟩ := h
  exact run_own F tk hr I .nil ⟨[], M, h', .nil, hr', pp⟩
/-- of built-ins -/
theorem sim_callB {id : String} {r : List V → Hp → VK → Prop} (hc : CallR X (.builtin id) r) (hf : OpN T X.K f r) (hg : Gl X x) (hm : X.mg x = none) (hv : bootBuiltins x = some (.builtin id)) (ha : SimA T X W (e :: es) a) (hn : x ≠ "__name__" := by decide) (hdb : (x == ("__debug__" : Str)) = false := by decide)
    (he : starEach (e :: es) X.env = (false, eval e X.env) :: starEach es X.env := by rfl) (hpl : (backTo pos (starEach es X.env)).any (·.1) = false := by rfl) : SimE T X W (.Call (.Name x p) (e :: es) [] pos) (mAll f a) :=
  PE.weak (pe_callB hc hg hm hv ha hn hdb he hpl) fun σ H Q ⟨S, M, h, sr, hr, p⟩ => trA_then sr hr p fun vs h1 M1 H1 xs e1 sr1 hr1 r1 p1 => hf M1 H1 h1 vs xs _ Q hr1 r1 p1
theorem sim_callTy {id : String} {r : List V → Hp → VK → Prop} (hc : CallR X (.type id) r) (hf : OpN T X.K f r) (hg : Gl X x) (hm : X.mg x = none) (hv : bootBuiltins x = some (.type id)) (ha : SimA T X W (e :: es) a) (hn : x ≠ "__name__" := by decide) (hdb : (x == ("__debug__" : Str)) = false := by decide)
    (he : starEach (e :: es) X.env = (false, eval e X.env) :: starEach es X.env := by rfl) (hpl : (backTo pos (starEach es X.env)).any (·.1) = false := by rfl) : SimE T X W (.Call (.Name x p) (e :: es) [] pos) (mAll f a) :=
  PE.weak (pe_callTy hc hg hm hv ha hn hdb he hpl) fun σ H Q ⟨S, M, h, sr, hr, p⟩ => trA_then sr hr p fun vs h1 M1 H1 xs e1 sr1 hr1 r1 p1 => hf M1 H1 h1 vs xs _ Q hr1 r1 p1
end

/-! len, max, min, int, str, list, tuple -/
def kLen (vs : List Vl) (h : Hs) : Rs Vl := match vs with
  | [.p (.str x)] => if x.length ≤ 16777216 then pI x.length h else none
  | [v] => match seqV v h with
    | some ds => pI ds.length h
    | none => none
  | _ => none
abbrev rLen2 (K : PySem.W.Frag) : List V → Hp → VK → Prop := fun xs H Q => (∃ z, xs = [.str z] ∧ z.length ≤ sizeLine ∧ Q (.int z.length) H) ∨ (∃ p ys, xs = [.ref p] ∧ (SqL K H p ys ∨ SqT K H p ys) ∧ Q (.int ys.length) H)
theorem s_len : OpN T X.K kLen (rLen2 X.K) := by
  intro M H h vs xs Er Q hr r p
  unfold kLen at p
  split at p
  · split at p
    · rename_i hz
      cases r with
      | cons r1 r2 =>
        cases r2
        cases r1 with
        | p r1 =>
          cases r1
          exact .inl ⟨_, rfl, le_line hz, p.ret .refl hr (.p (.int _))⟩
    · exact p.elim
  · split at p
    · rename_i ds q
      cases r with
      | cons r1 r2 =>
        cases r2
        obtain ⟨a, ys, rfl, hs, ra⟩ := r1.seqV hr q
        rw [ra.length] at p
        exact .inr ⟨a, ys, rfl, hs, p.ret .refl hr (.p (.int _))⟩
    · exact p.elim
  · exact p.elim
section
variable {e : Expr} {a : MA} {p pos : Pos}
theorem sim_len (hm : X.mg "len" = none) (ha : SimA T X W [e] a) (hg : Gl X "len" := by rfl)
    (he : starEach [e] X.env = (false, eval e X.env) :: starEach [] X.env := by rfl) : SimE T X W (.Call (.Name "len" p) [e] [] pos) (mAll kLen a) :=
  sim_callB (call_len_str.or call_len_seq) s_len hg hm PySem.boot_len ha (he := he) (hpl := rfl)
end
end
end EV
end T3
section T4
set_option Elab.async false
set_option linter.all false
set_option maxRecDepth 100000
namespace EV
open PySem PySem.Spec PyProof.Rows L2

inductive Fl where
  | nx | rt (v : Vl) | bk | ct
abbrev RS := Option (Except Exn Fl × Sl × Hs)
abbrev MS := Sl → Hs → RS
def bndS {α : Type} (r : Rs α) (S : Sl) (k : α → Hs → RS) : RS := match r with
  | none => none
  | some (.error c, h) => some (.error c, S, h)
  | some (.ok v, h) => k v h
section
variable (T : Tb) (K : PySem.W.Frag)
def postS (W : WX) (M : Trk) (H : Hp) (D : Ends) : RS → Prop
  | none => False
  | some (.error c, S', h') => ∀ M' H' σ', Ext M H M' H' → HR T K M' H' h' → SR T K M' H' S' σ' → erAt T W σ' c H'
  | some (.ok .nx, S', h') => ∀ M' H' σ', Ext M H M' H' → HR T K M' H' h' → SR T K M' H' S' σ' → D.nx σ' H'
  | some (.ok .bk, S', h') => ∀ M' H' σ', Ext M H M' H' → HR T K M' H' h' → SR T K M' H' S' σ' → D.bk σ' H'
  | some (.ok .ct, S', h') => ∀ M' H' σ', Ext M H M' H' → HR T K M' H' h' → SR T K M' H' S' σ' → D.ct σ' H'
  | some (.ok (.rt v), S', h') => ∀ M' H' x, Ext M H M' H' → HR T K M' H' h' → RV T K M' H' v x → D.rt x H'
def trS (W : WX) (m : MS) : TS := fun D σ H => ∃ S M h, SR T K M H S σ ∧ HR T K M H h ∧ postS T K W M H D (m S h)
end
section
variable {T : Tb} {K : PySem.W.Frag} {W : WX} {M M' : Trk} {H H' : Hp} {D : Ends} {α β : Type} {R : Trk → Hp → α → β → Prop}
theorem postS.ext {r : RS} (p : postS T K W M H D r) (e : Ext M H M' H') : postS T K W M' H' D r := by
  match r, p with
  | some (.error c, S', h'), p => exact fun M2 H2 σ e2 => p M2 H2 σ (e.trans e2)
  | some (.ok .nx, S', h'), p => exact fun M2 H2 σ e2 => p M2 H2 σ (e.trans e2)
  | some (.ok .bk, S', h'), p => exact fun M2 H2 σ e2 => p M2 H2 σ (e.trans e2)
  | some (.ok .ct, S', h'), p => exact fun M2 H2 σ e2 => p M2 H2 σ (e.trans e2)
  | some (.ok (.rt v), S', h'), p => exact fun M2 H2 x e2 => p M2 H2 x (e.trans e2)
theorem postS.bnd {r : Rs α} {S : Sl} {σ : L2.St} {k : α → Hs → RS} {Q : β → Hp → Prop} (p : postS T K W M H D (bndS r S k)) (sr : SR T K M H S σ)
    (f : ∀ v h1 M1 H1 x, Ext M H M1 H1 → SR T K M1 H1 S σ → HR T K M1 H1 h1 → R M1 H1 v x → postS T K W M1 H1 D (k v h1) → Q x H1) : post T K R M H (erAt T W σ) Q r := by
  match r, p with
  | some (.error c, h'), p => exact fun M1 H1 e hr => p M1 H1 σ e hr (sr.ext e)
  | some (.ok v, h'), p => exact fun M1 H1 x e hr rx => f v h' M1 H1 x e (sr.ext e) hr rx (postS.ext (r := k v h') p e)
/-- only the ways out of D that are asked are needed -/
theorem postS.to {r : RS} {D' : Ends} (p : postS T K W M H D r) (h1 : ∀ σ H, D.nx σ H → D'.nx σ H) (h2 : ∀ x H, D.rt x H → D'.rt x H) (h3 : ∀ σ H, D.bk σ H → D'.bk σ H) (h4 : ∀ σ H, D.ct σ H → D'.ct σ H) : postS T K W M H D' r := by
  match r, p with
  | some (.error c, S', h'), p => exact p
  | some (.ok .nx, S', h'), p => exact fun M2 H2 σ a b c => h1 _ _ (p M2 H2 σ a b c)
  | some (.ok .bk, S', h'), p => exact fun M2 H2 σ a b c => h3 _ _ (p M2 H2 σ a b c)
  | some (.ok .ct, S', h'), p => exact fun M2 H2 σ a b c => h4 _ _ (p M2 H2 σ a b c)
  | some (.ok (.rt v), S', h'), p => exact fun M2 H2 x a b c => h2 _ _ (p M2 H2 x a b c)
end

section
variable (T : Tb) (X : Cx) (W : WX)
abbrev SimS (s : Stmt) (m : MS) : Prop := PS X s (trS T X.K W m)
abbrev SimSs (s : List Stmt) (m : MS) : Prop := PSs X s (trS T X.K W m)
end
section
variable {T : Tb} {X : Cx} {W : WX}
def sNil : MS := fun S h => some (.ok .nx, S, h)
def sSeq (a b : MS) : MS := fun S h => match a S h with
  | some (.ok .nx, S', h') => b S' h'
  | r => r
theorem sims_nil : SimSs T X W [] sNil := PSs.weak pss_nil fun D σ H ⟨S, M, h, sr, hr, p⟩ => p M H σ .refl hr sr
theorem sims_cons {st : Stmt} {rest : List Stmt} {a b : MS} (ha : SimS T X W st a) (hb : SimSs T X W rest b) : SimSs T X W (st :: rest) (sSeq a b) := by
  refine PSs.weak (pss_cons ha hb) fun D σ H ⟨S, M, h, sr, hr, p⟩ => ⟨S, M, h, sr, hr, ?_⟩
  unfold sSeq at p
  match e : a S h, p with
  | some (.ok .nx, S', h'), p => exact fun M' H' σ' e' hr' sr' => ⟨S', M', h', sr', hr', postS.ext p e'⟩
  | some (.error c, S', h'), p => exact p
  | some (.ok .bk, S', h'), p => exact p
  | some (.ok .ct, S', h'), p => exact p
  | some (.ok (.rt v), S', h'), p => exact p
def sPass : MS := fun S h => some (.ok .nx, S, h)
theorem sim_pass {pos : Pos} : SimS T X W (.Pass pos) sPass := PS.weak ps_pass fun D σ H ⟨S, M, h, sr, hr, p⟩ => p M H σ .refl hr sr
def sExpr (m : ME) : MS := fun S h => bndS (m S h) S fun _ h1 => some (.ok .nx, S, h1)
theorem sim_expr {e : Expr} {m : ME} {pos : Pos} (he : SimE T X W e m) (hs : swapsWith e none pos.line X.env = pure false := by rfl) : SimS T X W (.Expr e pos) (sExpr m) :=
  PS.weak (ps_expr he hs) fun D σ H ⟨S, M, h, sr, hr, p⟩ => ⟨S, M, h, sr, hr, p.bnd sr fun v h1 M1 H1 x e1 sr1 hr1 r1 p1 => p1 M1 H1 σ .refl hr1 sr1⟩
def sRet (m : ME) : MS := fun S h => bndS (m S h) S fun v h1 => some (.ok (.rt v), S, h1)
theorem sim_ret {e : Expr} {m : ME} {pos : Pos} (he : SimE T X W e m) : SimS T X W (.Return (some e) pos) (sRet m) :=
  PS.weak (ps_ret he) fun D σ H ⟨S, M, h, sr, hr, p⟩ => ⟨S, M, h, sr, hr, p.bnd sr fun v h1 M1 H1 x e1 sr1 hr1 r1 p1 => p1 M1 H1 x .refl hr1 r1⟩
def sIf (c : MT) (a b : MS) : MS := fun S h => bndS (c S h) S fun k h1 => if k = true then a S h1 else b S h1
theorem sim_ifS {c : Expr} {a b : List Stmt} {mc : MT} {ma mb : MS} {pos : Pos} (hc : SimT T X W c mc) (ha : SimSs T X W a ma) (hb : SimSs T X W b mb) : SimS T X W (.If c a b pos) (sIf mc ma mb) := by
  refine PS.weak (ps_if hc ha hb) fun D σ H ⟨S, M, h, sr, hr, p⟩ => ⟨S, M, h, sr, hr, p.bnd sr fun v h1 M1 H1 x e1 sr1 hr1 r1 p1 => ?_⟩
  cases (r1 : v = x)
  cases v with
  | true => exact ⟨S, M1, h1, sr1, hr1, p1⟩
  | false => exact ⟨S, M1, h1, sr1, hr1, p1⟩
def sSet (i : Nat) (m : ME) : MS := fun S h => bndS (m S h) S fun v h1 => some (.ok .nx, S.set i (some v), h1)
theorem sim_set (i : Nat) {x : Str} {e : Expr} {m : ME} {pos pos' : Pos} (hN : X.N.Nodup) (he : SimE T X W e m) (hi : X.N[i]? = some x := by rfl) (hx : Loc X.env.scope x := by first | exact Or.inl rfl | exact Or.inr rfl) (hs : swapsWith e (some (.Name x pos')) pos.line X.env = pure false := by rfl) (hf : X.fn x = true ∨ X.env.scope.names.lookup x = some .local := by first | exact .inl rfl | exact .inr rfl) :
    SimS T X W (.Assign [.Name x pos'] e pos) (sSet i m) :=
  PS.weak (ps_set hN hi hx he hs hf) fun D σ H ⟨S, M, h, sr, hr, p⟩ => ⟨S, M, h, sr, hr, p.bnd sr fun v h1 M1 H1 x e1 sr1 hr1 r1 p1 => p1 M1 H1 _ .refl hr1 (sr1.set r1 i)⟩
/-- a, b = x, y -/
def sPar (i j : Nat) (a : MA) : MS := fun S h => bndS (a S h) S fun vs h1 => match vs with
  | [v, w] => some (.ok .nx, (S.set i (some v)).set j (some w), h1)
  | _ => none
theorem sim_par (i j : Nat) {x y : Str} {a b : Expr} {m : MA} {px py pt pos : Pos} {kt k2 : Nat} {pt2 : Pos} (hc : X.calm = true) (hN : X.N.Nodup) (ha : SimA T X W [a, b] m) (hi : X.N[i]? = some x := by rfl) (hj : X.N[j]? = some y := by rfl) (hij : i ≠ j := by decide)
    (h1 : X.env.scope.names.lookup x = some .local := by rfl) (h2 : X.env.scope.names.lookup y = some .local := by rfl) (hw : swappedStores [.Tuple [.Name x px, .Name y py] kt pt] (.Tuple [a, b] k2 pt2) X.env = pure (some [x, y]) := by rfl)
    (hs : swapsWithSole [.Tuple [.Name x px, .Name y py] kt pt] (.Tuple [a, b] k2 pt2) pos.line X.env = pure false := by rfl) :
    SimS T X W (.Assign [.Tuple [.Name x px, .Name y py] kt pt] (.Tuple [a, b] k2 pt2) pos) (sPar i j m) := by
  refine PS.weak (ps_par hc hN hi hj hij h1 h2 ha hw hs) fun D σ H ⟨S, M, h, sr, hr, p⟩ => ⟨S, M, h, sr, hr, p.bnd sr fun vs h1 M1 H1 xs e1 sr1 hr1 r1 p1 => ?_⟩
  split at p1
  · cases r1 with
    | cons ra r1 =>
      cases r1 with
      | cons rb r1 =>
        cases r1
        exact ⟨_, _, rfl, p1 M1 H1 _ .refl hr1 ((sr1.set ra i).set rb j)⟩
  · exact p1.elim
def sPar3 (i j l : Nat) (a : MA) : MS := fun S h => bndS (a S h) S fun vs h1 => match vs with
  | [u, v, w] => some (.ok .nx, ((S.set i (some u)).set j (some v)).set l (some w), h1)
  | _ => none
theorem sim_par3 (i j l : Nat) {x y z : Str} {a b c : Expr} {m : MA} {px py pz pt pos : Pos} {kt k2 : Nat} {pt2 : Pos} (hc : X.calm = true) (hN : X.N.Nodup) (ha : SimA T X W [a, b, c] m) (hi : X.N[i]? = some x := by rfl) (hj : X.N[j]? = some y := by rfl) (hl : X.N[l]? = some z := by rfl) (hij : i ≠ j := by decide) (hil : i ≠ l := by decide) (hjl : j ≠ l := by decide)
    (h1 : X.env.scope.names.lookup x = some .local := by rfl) (h2 : X.env.scope.names.lookup y = some .local := by rfl) (h3 : X.env.scope.names.lookup z = some .local := by rfl) (hw : swappedStores [.Tuple [.Name x px, .Name y py, .Name z pz] kt pt] (.Tuple [a, b, c] k2 pt2) X.env = pure (some [x, y, z]) := by rfl)
    (hs : swapsWithSole [.Tuple [.Name x px, .Name y py, .Name z pz] kt pt] (.Tuple [a, b, c] k2 pt2) pos.line X.env = pure false := by rfl) :
    SimS T X W (.Assign [.Tuple [.Name x px, .Name y py, .Name z pz] kt pt] (.Tuple [a, b, c] k2 pt2) pos) (sPar3 i j l m) := by
  refine PS.weak (ps_par3 hc hN hi hj hl hij hil hjl h1 h2 h3 ha hw hs) fun D σ H ⟨S, M, h, sr, hr, p⟩ => ⟨S, M, h, sr, hr, p.bnd sr fun vs h1 M1 H1 xs e1 sr1 hr1 r1 p1 => ?_⟩
  split at p1
  · cases r1 with
    | cons ra r1 =>
      cases r1 with
      | cons rb r1 =>
        cases r1 with
        | cons rc r1 =>
          cases r1
          exact ⟨_, _, _, rfl, p1 M1 H1 _ .refl hr1 (((sr1.set ra i).set rb j).set rc l)⟩
  · exact p1.elim

/-! ### what is walked -/
/-- what is walked: things that stand, or a tracked list as it is found at each turn -/
inductive Itd where
  | d (ds : List P) | r (n : Nat)
def Itd.at (I : Itd) (i : Nat) (h : Hs) : Option (Option P) := match I with
  | .d ds => some ds[i]?
  | .r n => match h[n]? with
    | some (.lst ds) => some ds[i]?
    | _ => none
def Itd.len (I : Itd) (h : Hs) : Nat := match I with
  | .d ds => ds.length
  | .r n => match h[n]? with
    | some (.lst ds) => ds.length
    | _ => 0
/-- the things that an iterator yields, whatever else happens -/
def ItSim (T : Tb) (K : PySem.W.Frag) (M : Trk) (H : Hp) (I : Itd) (J : It) : Prop :=
  ∀ (i : Nat) M' H' h, ExtB M H M' H' → HR T K M' H' h →
    (∀ d, I.at i h = some (some d) → J.go i H' ∧ ∀ x H'', J.yld i H' x H'' → Ext M' H' M' H'' ∧ HR T K M' H'' h ∧ Rp T K M' H'' d x) ∧ (I.at i h = some none → J.stop i H')
/-- of things that stand -/
theorem ItSim.of {T : Tb} {K : PySem.W.Frag} {M : Trk} {H : Hp} {ds : List P} {J : It} (g : ∀ (i : Nat) M' H', ExtB M H M' H' → (∀ d, ds[i]? = some d → J.go i H' ∧ ∀ x H'' h, HR T K M' H' h → J.yld i H' x H'' → Ext M' H' M' H'' ∧ HR T K M' H'' h ∧ Rp T K M' H'' d x) ∧ (ds.length ≤ i → J.stop i H')) :
    ItSim T K M H (.d ds) J := fun i M' H' h e hr => by
  obtain ⟨a, b⟩ := g i M' H' e
  exact ⟨fun d hd => ⟨(a d (Option.some.inj hd)).1, fun x H'' y => (a d (Option.some.inj hd)).2 x H'' h hr y⟩, fun hd => b (List.getElem?_eq_none_iff.mp (Option.some.inj hd))⟩
abbrev MI := Sl → Hs → Rs Itd
def trI (T : Tb) (K : PySem.W.Frag) (W : WX) (m : MI) : TI := fun σ H R => ∃ S M h, SR T K M H S σ ∧ HR T K M H h ∧ post T K (ItSim T K) M H (erAt T W σ) R (m S h)
abbrev SimI (T : Tb) (X : Cx) (W : WX) (tg e : Expr) (m : MI) : Prop := PI X tg e (trI T X.K W m)
theorem PI.weak {tg e : Expr} {t t' : TI} (h : PI X tg e t) (f : ∀ σ H Q, t' σ H Q → t σ H Q) : PI X tg e t' := ⟨fun pins s σ H Q I q => h.run pins s σ H Q I (f σ H Q q)⟩
theorem it_list {M : Trk} {H : Hp} {a : Addr} {xs : List V} {ds : List P} (hl : SqL X.K H a xs) (hk : ∀ M' H', ExtB M H M' H' → SqL X.K H' a xs) (r : RpA T X.K M H ds xs) : ItSim T X.K M H (.d ds) (Itl X.K a) := by
  refine .of ?_
  intro i M' H' e
  refine ⟨fun d hd => ?_, fun hi => ⟨xs, hk M' H' e, by rw [← r.length]; exact hi⟩⟩
  obtain ⟨x, hx, rx⟩ := r.get hd
  refine ⟨⟨xs, x, hk M' H' e, hx⟩, fun y H'' h hr q => ?_⟩
  obtain ⟨e1, q⟩ := q
  subst e1
  have e2 : y = x := Option.some.inj ((q xs (hk M' _ e)).symm.trans hx)
  subst e2
  exact ⟨.refl, hr, rx.extB e⟩
theorem it_tup {M : Trk} {H : Hp} {a : Addr} {xs : List V} {ds : List P} (hl : TupM M H a xs) (r : RpA T X.K M H ds xs) : ItSim T X.K M H (.d ds) (Itt X.K a) := by
  refine .of ?_
  intro i M' H' e
  refine ⟨fun d hd => ?_, fun hi => ⟨xs, (hl.extB e).sqT, by rw [← r.length]; exact hi⟩⟩
  obtain ⟨x, hx, rx⟩ := r.get hd
  refine ⟨⟨xs, x, (hl.extB e).sqT, hx⟩, fun y H'' h hr q => ?_⟩
  obtain ⟨e1, q⟩ := q
  subst e1
  have e2 : y = x := Option.some.inj ((q xs (hl.extB e).sqT).symm.trans hx)
  subst e2
  exact ⟨.refl, hr, rx.extB e⟩
def intsP (lo : Int) (n : Nat) : List P := (List.range n).map fun (k : Nat) => P.int (lo + k)
theorem it_range {M : Trk} {H : Hp} (lo : Int) (n : Nat) : ItSim T X.K M H (.d (intsP lo n)) (Itr lo n) := by
  refine .of ?_
  intro i M' H' e
  refine ⟨fun d hd => ?_, fun hi => ?_⟩
  · unfold intsP at hd
    rw [List.getElem?_map] at hd
    have hi : i < n := by
      cases q : (List.range n)[i]? with
      | none => rw [q] at hd; cases hd
      | some k =>
        have := (List.getElem?_eq_some_iff.mp q).1
        simpa using this
    rw [List.getElem?_range hi] at hd
    cases hd
    refine ⟨hi, fun y H'' h hr q => ?_⟩
    obtain ⟨e1, e2⟩ := q
    subst e1 e2
    exact ⟨.refl, hr, .int _⟩
  · have : n ≤ i := by simpa [intsP] using hi
    exact this
/-- a list or a tuple that is data -/
def iSeqL (m : ME) : MI := fun S h => bnd (m S h) fun v h1 => match v with
  | .p (.lst ds) => ret (.d ds) h1
  | .p (.scr ds) => ret (.d ds) h1
  | .ref n => match h1[n]? with
    | some (.lst _) => ret (.r n) h1
    | _ => none
  | _ => none
def iSeqT (m : ME) : MI := fun S h => bnd (m S h) fun v h1 => match v with
  | .p (.tup ds) => ret (.d ds) h1
  | _ => none
theorem trI_then {m : ME} {k : Vl → Hs → Rs Itd} {S : Sl} {M : Trk} {h : Hs} {σ : L2.St} {H : Hp} {Q : It → Hp → Prop} {G : V → Hp → Prop} (sr : SR T X.K M H S σ) (hr : HR T X.K M H h)
    (p : post T X.K (ItSim T X.K) M H (erAt T W σ) Q (bnd (m S h) k))
    (f : ∀ v h1 M1 H1 x, Ext M H M1 H1 → SR T X.K M1 H1 S σ → HR T X.K M1 H1 h1 → RV T X.K M1 H1 v x → post T X.K (ItSim T X.K) M1 H1 (erAt T W σ) Q (k v h1) → G x H1) : tr T X.K W m σ H G :=
  ⟨S, M, h, sr, hr, p.bnd fun v h1 M1 H1 x e hr1 r q => f v h1 M1 H1 x e (sr.ext e) hr1 r q⟩
theorem sim_iL {tg e : Expr} {m : ME} (h : SimE T X W e m) : SimI T X W tg e (iSeqL m) := by
  refine PI.weak (pi_list h) fun σ H Q ⟨S, M, h, sr, hr, p⟩ => trI_then sr hr p fun v h1 M1 H1 x e1 sr1 hr1 r1 p1 => ?_
  split at p1
  · cases r1 with
    | p r1 =>
      cases r1 with
      | lst hl hn ra =>
        exact ⟨_, rfl, ⟨_, .of hl⟩, p1.ret .refl hr1 (it_list (.of hl) (fun M' H' e => .of (e.kept _ _ hl hn)) ra)⟩
  · cases r1 with
    | p r1 =>
      cases r1 with
      | scr hl ra =>
        exact ⟨_, rfl, ⟨_, hl.sqL⟩, p1.ret .refl hr1 (it_list hl.sqL (fun M' H' e => (hl.extB e).sqL) ra)⟩
  · cases r1 with
    | ref ea =>
      rename_i n a
      obtain ⟨q, hq, c⟩ := hr1.got ea
      rw [hq] at p1
      cases c with
      | ins _ _ _ => exact p1.elim
      | lst hl ra =>
        refine ⟨a, rfl, ⟨_, .of hl⟩, p1.ret .refl hr1 fun i M' H' h e hr => ?_⟩
        obtain ⟨q', hq', c'⟩ := hr.got (e.get _ _ ea)
        cases c' with
        | ins _ _ _ =>
          refine ⟨fun d hd => ?_, fun hd => ?_⟩ <;> (simp only [Itd.at, hq'] at hd; cases hd)
        | lst hl' ra' =>
          refine ⟨fun d hd => ?_, fun hd => ?_⟩
          · simp only [Itd.at, hq'] at hd
            obtain ⟨x, hx, rx⟩ := ra'.get (Option.some.inj hd)
            refine ⟨⟨_, x, .of hl', hx⟩, fun y H'' q => ?_⟩
            obtain ⟨e1, q⟩ := q
            subst e1
            have e2 : y = x := Option.some.inj ((q _ (.of hl')).symm.trans hx)
            subst e2
            exact ⟨.refl, hr, rx⟩
          · simp only [Itd.at, hq'] at hd
            exact ⟨_, .of hl', by rw [← ra'.length]; exact List.getElem?_eq_none_iff.mp (Option.some.inj hd)⟩
  · exact p1.elim
theorem sim_iT {tg e : Expr} {m : ME} (h : SimE T X W e m) : SimI T X W tg e (iSeqT m) := by
  refine PI.weak (pi_tup h) fun σ H Q ⟨S, M, h, sr, hr, p⟩ => trI_then sr hr p fun v h1 M1 H1 x e1 sr1 hr1 r1 p1 => ?_
  split at p1
  · cases r1 with
    | p r1 =>
      cases r1 with
      | tup hl ra => exact ⟨_, rfl, ⟨_, hl.sqT⟩, p1.ret .refl hr1 (it_tup hl ra)⟩
  · exact p1.elim
def iRange (a : MA) : MI := fun S h => bnd (a S h) fun vs h1 => match vs with
  | [.p (.int j)] => if -(2 ^ 62) ≤ j ∧ j < 2 ^ 62 then ret (.d (intsP 0 j.toNat)) h1 else none
  | [.p (.int i), .p (.int j)] => if -(2 ^ 62) ≤ i ∧ i < 2 ^ 62 ∧ -(2 ^ 62) ≤ j ∧ j < 2 ^ 62 then ret (.d (intsP i (j - i).toNat)) h1 else none
  | _ => none
def iRange1 (a : MA) : MI := fun S h => bnd (a S h) fun vs h1 => match vs with
  | [.p (.int j)] => if -(2 ^ 62) ≤ j ∧ j < 2 ^ 62 then ret (.d (intsP 0 j.toNat)) h1 else none
  | _ => none
def iRange2 (a : MA) : MI := fun S h => bnd (a S h) fun vs h1 => match vs with
  | [.p (.int i), .p (.int j)] => if -(2 ^ 62) ≤ i ∧ i < 2 ^ 62 ∧ -(2 ^ 62) ≤ j ∧ j < 2 ^ 62 then ret (.d (intsP i (j - i).toNat)) h1 else none
  | _ => none
theorem sim_iR1 {tg a : Expr} {m : MA} {p pos : Pos} (hm : X.mg "range" = none) (ha : SimA T X W [a] m) (hg : Gl X "range" := by rfl) (hs : starEach [a] X.env = [(false, eval a X.env)] := by rfl) : SimI T X W tg (.Call (.Name "range" p) [a] [] pos) (iRange1 m) := by
  refine PI.weak (pi_range1 hg hm ha hs) fun σ H Q ⟨S, M, h, sr, hr, p⟩ => trA_then sr hr p fun vs h1 M1 H1 xs e1 sr1 hr1 r1 p1 => ?_
  split at p1
  · split at p1
    · rename_i hb
      cases r1 with
      | cons ra r1 =>
        cases r1
        cases ra with
        | p ra =>
          cases ra
          exact ⟨_, rfl, hb.1, hb.2, p1.ret .refl hr1 (it_range _ _)⟩
    · exact p1.elim
  · exact p1.elim
theorem sim_iR2 {tg a b : Expr} {m : MA} {p pos : Pos} (hm : X.mg "range" = none) (ha : SimA T X W [a, b] m) (hg : Gl X "range" := by rfl) (hs : starEach [a, b] X.env = [(false, eval a X.env), (false, eval b X.env)] := by rfl) (hs2 : starEach [b] X.env = [(false, eval b X.env)] := by rfl) : SimI T X W tg (.Call (.Name "range" p) [a, b] [] pos) (iRange2 m) := by
  refine PI.weak (pi_range2 hg hm ha hs hs2) fun σ H Q ⟨S, M, h, sr, hr, p⟩ => trA_then sr hr p fun vs h1 M1 H1 xs e1 sr1 hr1 r1 p1 => ?_
  split at p1
  · split at p1
    · rename_i hb
      cases r1 with
      | cons ra r1 =>
        cases r1 with
        | cons rb r1 =>
          cases r1
          cases ra with
          | p ra =>
            cases rb with
            | p rb =>
              cases ra
              cases rb
              exact ⟨_, _, rfl, hb, p1.ret .refl hr1 (it_range _ _)⟩
    · exact p1.elim
  · exact p1.elim

/-! ### targets -/
abbrev MG := P → Sl → Option Sl
def trG (T : Tb) (K : PySem.W.Frag) (js : List Nat) (g : MG) : TG := fun v σ H Q => ∃ S M h d S', SR T K M H S σ ∧ HR T K M H h ∧ Rp T K M H d v ∧ g d S = some S' ∧
  ∀ σ', SR T K M H S' σ' → (∀ vs, (∀ j ∈ js, j ∈ vs) → wipe σ' vs = wipe σ vs) → Q σ' H
abbrev SimG (T : Tb) (X : Cx) (tg : Expr) (js : List Nat) (g : MG) : Prop := PG X tg (trG T X.K js g)
theorem PG.weak {tg : Expr} {t t' : TG} (h : PG X tg t) (f : ∀ v σ H Q, t' v σ H Q → t v σ H Q) : PG X tg t' := ⟨fun pins s σ H v u Q I r q => h.run pins s σ H v u Q I r (f v σ H Q q)⟩
theorem wipe_get {σ : L2.St} {j : Nat} : ∀ {vs : List Nat}, j ∉ vs → (wipe σ vs)[j]? = σ[j]?
  | [], _ => rfl
  | v :: vs, h => by
    unfold wipe
    have h1 : j ≠ v := fun e => h (by rw [e]; exact List.mem_cons_self)
    rw [List.getElem?_set_ne (Ne.symm h1)]
    exact wipe_get fun z => h (List.mem_cons_of_mem _ z)
theorem wipe_at {σ : L2.St} {j : Nat} : ∀ {vs : List Nat}, j ∈ vs → j < σ.length → (wipe σ vs)[j]? = some none
  | [], h, _ => by cases h
  | v :: vs, h, hl => by
    unfold wipe
    by_cases e : v = j
    · subst e
      rw [List.getElem?_set_self (by rw [wipe_length]; exact hl)]
    · rw [List.getElem?_set_ne e]
      exact wipe_at (by
        rcases List.mem_cons.mp h with z | z
        · exact absurd z.symm e
        · exact z) hl
theorem wipe_ext {σ τ : L2.St} {vs : List Nat} (hl : σ.length = τ.length) (h : ∀ j, j ∉ vs → σ[j]? = τ[j]?) : wipe σ vs = wipe τ vs := by
  refine List.ext_getElem? fun j => ?_
  by_cases hj : j ∈ vs
  · by_cases hb : j < σ.length
    · rw [wipe_at hj hb, wipe_at hj (by rw [← hl]; exact hb)]
    · rw [List.getElem?_eq_none (by rw [wipe_length]; exact Nat.le_of_not_lt hb), List.getElem?_eq_none (by rw [wipe_length, ← hl]; exact Nat.le_of_not_lt hb)]
  · rw [wipe_get hj, wipe_get hj]; exact h j hj
theorem wipe_set {σ : L2.St} {j : Nat} {y : Option V} {vs : List Nat} (hj : j ∈ vs) : wipe (σ.set j y) vs = wipe σ vs :=
  wipe_ext (by simp) fun i hi => by
    have h1 : j ≠ i := fun e => hi (by rw [← e]; exact hj)
    rw [List.getElem?_set_ne h1]
theorem wipe_wipe {σ : L2.St} {vs : List Nat} : wipe (wipe σ vs) vs = wipe σ vs := wipe_ext (wipe_length _ _) fun j hj => wipe_get hj
def gN (i : Nat) : MG := fun d S => some (S.set i (some (.p d)))
theorem sim_gN (i : Nat) {x : Str} {pos : Pos} (hN : X.N.Nodup) (hi : X.N[i]? = some x := by rfl) (hx : Loc X.env.scope x := by first | exact Or.inl rfl | exact Or.inr rfl) (hf : X.fn x = true ∨ X.env.scope.names.lookup x = some .local := by first | exact .inl rfl | exact .inr rfl) : SimG T X (.Name x pos) [i] (gN i) := by
  refine PG.weak (pg_name hN hi hx hf) fun v σ H Q ⟨S, M, h, d, S', sr, hr, rd, e, q⟩ => ?_
  cases e
  exact q _ (sr.set (.p rd) i) fun vs hv => wipe_set (hv i (by simp))
/-- several names at once -/
abbrev MGs := List P → Sl → Option Sl
def trGs (T : Tb) (K : PySem.W.Frag) (js : List Nat) (g : MGs) : TGs := fun vs σ H Q => ∃ S M h ds S', SR T K M H S σ ∧ HR T K M H h ∧ RpA T K M H ds vs ∧ g ds S = some S' ∧
  ∀ σ', SR T K M H S' σ' → (∀ vs, (∀ j ∈ js, j ∈ vs) → wipe σ' vs = wipe σ vs) → Q σ' H
abbrev SimGs (T : Tb) (X : Cx) (tg : List Expr) (js : List Nat) (g : MGs) : Prop := PGs X tg (trGs T X.K js g)
def gsNil : MGs := fun ds S => match ds with
  | [] => some S
  | _ => none
def gsCons (g : MG) (r : MGs) : MGs := fun ds S => match ds with
  | d :: ds => match g d S with
    | some S1 => r ds S1
    | none => none
  | [] => none
theorem sim_gsNil : SimGs T X [] [] gsNil := ⟨fun pins s σ H vs us Q I r ⟨S, M, h, ds, S', sr, hr, rd, e, q⟩ => pgs_nil.run pins s σ H vs us Q I r (by
  unfold gsNil at e
  split at e
  · cases e
    cases rd
    exact ⟨rfl, q σ sr fun _ _ => rfl⟩
  · cases e)⟩
theorem sim_gsCons {tg : Expr} {tgs : List Expr} {js ks : List Nat} {g : MG} {r : MGs} (h1 : SimG T X tg js g) (h2 : SimGs T X tgs ks r)
    (hs : (assignEach (tg :: tgs) X.env).map (·.2) = assign tg X.env :: (assignEach tgs X.env).map (·.2) := by rfl) : SimGs T X (tg :: tgs) (js ++ ks) (gsCons g r) :=
  ⟨fun pins s σ H vs us Q I rr ⟨S, M, h, ds, S', sr, hr, rd, e, q⟩ => (pgs_cons h1 h2 hs).run pins s σ H vs us Q I rr (by
    unfold gsCons at e
    split at e
    · rename_i d ds
      cases rd with
      | cons ra rb =>
        split at e
        · rename_i S1 e1
          refine ⟨_, _, rfl, S, M, h, d, S1, sr, hr, ra, e1, fun σ1 sr1 w1 => ?_⟩
          refine ⟨S1, M, h, ds, S', sr1, hr, rb, e, fun σ2 sr2 w2 => q σ2 sr2 fun vs hv => ?_⟩
          rw [w2 vs fun j hj => hv j (List.mem_append_right _ hj), w1 vs fun j hj => hv j (List.mem_append_left _ hj)]
        · cases e
    · cases e)⟩
def gT (n : Nat) (r : MGs) : MG := fun d S => match d with
  | .tup ds => if ds.length = n then r ds S else none
  | _ => none
theorem sim_gT {es : List Expr} {js : List Nat} {r : MGs} {n k : Nat} {pos : Pos} (hc : X.calm = true) (h : SimGs T X es js r) (hn : (assignEach es X.env).length = n := by rfl) (hst : (assignEach es X.env).findIdx? (·.1) = none := by rfl) : SimG T X (.Tuple es k pos) js (gT n r) := by
  refine PG.weak (pg_tup hc h hn hst) fun v σ H Q ⟨S, M, h, d, S', sr, hr, rd, e, q⟩ => ?_
  unfold gT at e
  split at e
  · cases rd with
    | tup ht ra =>
      split at e
      · rename_i hl
        exact ⟨_, _, rfl, ht.sqT, by rw [← ra.length]; exact hl, S, M, h, _, S', sr, hr, ra, e, q⟩
      · cases e
  · cases e

/-! ### for -/
def forS (g : MG) (b : MS) (I : Itd) : Nat → Nat → MS
  | 0, i, S, h => match I.at i h with
    | some none => some (.ok .nx, S, h)
    | _ => none
  | k + 1, i, S, h => match I.at i h with
    | none => none
    | some none => some (.ok .nx, S, h)
    | some (some d) => match g d S with
      | none => none
      | some S1 => match b S1 h with
        | some (.ok .nx, S2, h2) => forS g b I k (i + 1) S2 h2
        | some (.ok .ct, S2, h2) => forS g b I k (i + 1) S2 h2
        | some (.ok .bk, S2, h2) => some (.ok .nx, S2, h2)
        | r => r
def sFor (mi : MI) (g : MG) (b : MS) : MS := fun S h => bndS (mi S h) S fun I h1 => forS g b I (I.len h1) 0 S h1
theorem sim_for {tg iter : Expr} {body : List Stmt} {mi : MI} {js : List Nat} {g : MG} {b : MS} {pos : Pos} (hp : PassesOwn (model X.prog X.w) X.A X.env X.xe) (hc : X.calm = true) (hi : SimI T X W tg iter mi) (hg : SimG T X tg js g) (hb : SimSs T X W body b)
    (hs : ∀ x, foldedSetIterable iter X.env x = pure x := by intro _; rfl) : SimS T X W (.For tg iter body [] pos) (sFor mi g b) := by
  refine PS.weak (ps_for hp hc hi hg hb hs) fun D σ H ⟨S, M, h, sr, hr, p⟩ => ⟨S, M, h, sr, hr, p.bnd sr fun I h1 M1 H1 J e1 sr1 hr1 r1 p1 => ?_⟩
  refine ⟨fun i m σ' H' => ∃ S' M' h', Ext M1 H1 M' H' ∧ SR T X.K M' H' S' σ' ∧ HR T X.K M' H' h' ∧ postS T X.K W M' H' D (forS g b I m i S' h'), ⟨I.len h1, S, M1, h1, .refl, sr1, hr1, p1⟩, ?_⟩
  rintro i m σ2 H2 ⟨S2, M2, h2, e2, sr2, hr2, p2⟩
  obtain ⟨q1, q2⟩ := r1 i M2 H2 h2 e2.b hr2
  cases hat : I.at i h2 with
  | none =>
    cases m <;> (simp only [forS, hat] at p2; exact p2.elim)
  | some o =>
    cases o with
    | none =>
      refine .inl ⟨q2 hat, ?_⟩
      cases m <;> (simp only [forS, hat] at p2; exact p2 M2 H2 σ2 .refl hr2 sr2)
    | some d =>
      cases m with
      | zero => simp only [forS, hat] at p2; exact p2.elim
      | succ m =>
        simp only [forS, hat] at p2
        obtain ⟨go, yl⟩ := q1 d hat
        refine .inr ⟨go, fun σ' H' => ∃ S' M' h', Ext M1 H1 M' H' ∧ SR T X.K M' H' S' σ' ∧ HR T X.K M' H' h' ∧ postS T X.K W M' H' D (forS g b I m (i + 1) S' h'), ?_, fun x H' hy => ?_⟩
        · rintro σ' H' ⟨S', M', h', a1, a2, a3, a4⟩
          exact ⟨m, Nat.lt_succ_self _, S', M', h', a1, a2, a3, a4⟩
        · obtain ⟨e3, hr3, rx⟩ := yl x H' hy
          cases eg : g d S2 with
          | none => rw [eg] at p2; exact p2.elim
          | some S3 =>
            rw [eg] at p2
            dsimp only at p2
            refine ⟨S2, M2, h2, d, S3, sr2.ext e3, hr3, rx, eg, fun σ3 sr3 _ => ?_⟩
            refine ⟨S3, M2, h2, sr3, hr3, ?_⟩
            have p3 := postS.ext p2 e3
            clear p2
            match eb : b S3 h2, p3 with
            | some (.error c, S4, h4), p3 => exact p3
            | some (.ok .nx, S4, h4), p3 =>
              exact fun M' H4 σ' a1 a2 a3 => ⟨S4, M', h4, (e2.trans e3).trans a1, a3, a2, postS.ext p3 a1⟩
            | some (.ok .ct, S4, h4), p3 =>
              exact fun M' H4 σ' a1 a2 a3 => ⟨S4, M', h4, (e2.trans e3).trans a1, a3, a2, postS.ext p3 a1⟩
            | some (.ok .bk, S4, h4), p3 => exact p3
            | some (.ok (.rt v), S4, h4), p3 => exact p3
            | none, p3 => exact p3.elim
end
end EV
end T4
section T5
set_option Elab.async false
set_option linter.all false
set_option maxRecDepth 100000
namespace EV
open PySem PySem.Spec PyProof.Rows L2

abbrev W0 : WX := fun _ _ _ _ => False
/-- an error within a comprehension is not served -/
def noErr {α : Type} (r : Rs α) : Rs α := match r with
  | some (.error _, _) => none
  | r => r
def wipeS (S : Sl) : List Nat → Sl
  | [] => S
  | v :: vs => (wipeS S vs).set v none
section
variable {T : Tb} {K : PySem.W.Frag} {M : Trk} {H : Hp}
theorem SR.clear {S : Sl} {σ : L2.St} (s : SR T K M H S σ) (i : Nat) : SR T K M H (S.set i none) (σ.set i none) := by
  refine ⟨by simp [s.len], fun j u h => ?_⟩
  by_cases e : i = j
  · subst e
    by_cases hl : i < S.length
    · rw [List.getElem?_set_self hl] at h; cases h
    · rw [List.getElem?_eq_none (by simpa using Nat.le_of_not_lt hl)] at h; cases h
  · rw [List.getElem?_set_ne e] at h
    obtain ⟨y, a, b⟩ := s.at' j u h
    exact ⟨y, by rw [List.getElem?_set_ne e]; exact a, b⟩
theorem SR.wipe {S : Sl} {σ : L2.St} (s : SR T K M H S σ) : ∀ vs : List Nat, SR T K M H (wipeS S vs) (L2.wipe σ vs)
  | [] => s
  | v :: vs => (SR.wipe s vs).clear v
theorem post.noErr {α β : Type} {R : Trk → Hp → α → β → Prop} {Er Er' : Exn → Hp → Prop} {Q : β → Hp → Prop} {r : Rs α} (p : post T K R M H Er Q (EV.noErr r)) : post T K R M H Er' Q r := by
  match r, p with
  | some (.ok v, h'), p => exact p
end
/-- the items of a comprehension -/
def compL (g : MG) (tt : MT) (te : ME) (S : Sl) (I : Itd) : Nat → Nat → Hs → Rs (List P)
  | 0, i, h => match I.at i h with
    | some none => ret [] h
    | _ => none
  | k + 1, i, h => match I.at i h with
    | none => none
    | some none => ret [] h
    | some (some d) => match g d S with
      | none => none
      | some S1 => bnd (noErr (tt S1 h)) fun b h1 => if b = true then bnd (noErr (te S1 h1)) fun v h2 => (match v with
          | .p y => bnd (compL g tt te S I k (i + 1) h2) fun ys h3 => ret (y :: ys) h3
          | .ref _ => none)
        else compL g tt te S I k (i + 1) h1
def mComp (mi : MI) (g : MG) (tt : MT) (te : ME) (vs : List Nat) : ME := fun S h => bnd (mi S h) fun I h1 => if I.len h1 ≤ 16777216 then bnd (compL g tt te (wipeS S vs) I (I.len h1) 0 h1) fun ys h2 => ret (.p (.lst ys)) h2 else none
section
variable {T : Tb} {X : Cx} {W : WX}
def tYesM : MT := fun _ h => ret true h
abbrev SimTs (T : Tb) (X : Cx) (W : WX) (es : List Expr) (t : MT) : Prop := PTs X es (trT T X.K W t)
theorem simTs_nil : SimTs T X W [] tYesM := ⟨fun pins s σ H Q I ⟨S, M, h, sr, hr, p⟩ => pts_nil.run pins s σ H Q I (p.ret .refl hr rfl)⟩
theorem simTs_one {c : Expr} {t : MT} (h : SimT T X W c t) : SimTs T X W [c] t := pts_one h

theorem post_bndE {α β γ δ : Type} {K : PySem.W.Frag} {M M0 : Trk} {H H0 : Hp} {R : Trk → Hp → α → β → Prop} {R2 : Trk → Hp → γ → δ → Prop} {Er Er' : Exn → Hp → Prop} {Q : β → Hp → Prop} {Q2 : δ → Hp → Prop} {r : Rs α} {k : α → Hs → Rs γ}
    (p : post T K R2 M0 H0 Er' Q2 (bnd (noErr r) k))
    (f : ∀ v h1 M1 H1 x, Ext M H M1 H1 → HR T K M1 H1 h1 → R M1 H1 v x → post T K R2 M0 H0 Er' Q2 (k v h1) → Q x H1) : post T K R M H Er Q r := by
  match r, p with
  | some (.ok v, h'), p => exact fun M1 H1 x e hr rx => f v h' M1 H1 x e hr rx p
theorem bnd_bnd {α β γ : Type} (r : Rs α) (k : α → Hs → Rs β) (k2 : β → Hs → Rs γ) : bnd (bnd r k) k2 = bnd r fun b h => bnd (k b h) k2 := by
  match r with
  | none => rfl
  | some (.error c, h) => rfl
  | some (.ok v, h) => rfl
theorem bnd_ret {α β : Type} (v : α) (h : Hs) (k : α → Hs → Rs β) : bnd (ret v h) k = k v h := rfl
/-- the list that is made, D, stands barred: no data refers to it -/
structure CompI (T : Tb) (K : PySem.W.Frag) (M1 : Trk) (H1 : Hp) (D : Addr) (M : Trk) (H : Hp) (h : Hs) (acc : List P) (xs : List V) : Prop where
  ext : Ext M1 H1 M H
  hr : HR T K M H h
  bar : D ∈ M.no
  at' : H D = some (.lst xs)
  out : D ∉ M.ch
  r : RpA T K M H acc xs
theorem CompI.step {K : PySem.W.Frag} {M1 M M' : Trk} {H1 H H' : Hp} {D : Addr} {h h' : Hs} {acc : List P} {xs : List V} (c : CompI T K M1 H1 D M H h acc xs) (e : Ext M H M' H') (hr : HR T K M' H' h') : CompI T K M1 H1 D M' H' h' acc xs :=
  ⟨c.ext.trans e, hr, e.nos D c.bar, e.keep D _ c.at' c.out, e.outT c.at' c.out, c.r.ext e⟩
theorem CompI.push {K : PySem.W.Frag} {M1 M : Trk} {H1 H : Hp} {D : Addr} {h : Hs} {acc : List P} {xs : List V} {d : P} {y : V} (c : CompI T K M1 H1 D M H h acc xs) (hD : H1 D = none) (r : Rp T K M H d y) : CompI T K M1 H1 D M (L2.upd H D (.lst (xs ++ [y]))) h (acc ++ [d]) (xs ++ [y]) := by
  refine ⟨⟨c.ext.pre, c.ext.nos, c.ext.new, fun a o e n => ?_, fun a e => c.ext.live a (live_upd e), c.ext.mms, c.ext.mnew⟩, c.hr.writeN c.bar c.out, c.bar, upd_same, c.out, (c.r.append (.cons r .nil)).barred c.bar⟩
  rw [upd_ne (ne_of_none e hD)]
  exact c.ext.keep a o e n
/-- the list is done: no longer barred -/
def unbar (M : Trk) (D : Addr) (h : D ∉ M.ch) : Trk := ⟨M.tk, M.mm, M.no.filter fun a => decide (a ≠ D), fun a ha => List.mem_filter.mpr ⟨M.sub a ha, decide_eq_true fun z => h (by rw [← z]; exact ha)⟩, M.inj⟩
theorem mem_unbar {M : Trk} {D a : Addr} {h : D ∉ M.ch} : a ∈ (unbar M D h).no ↔ a ∈ M.no ∧ a ≠ D := by simp [unbar]
theorem CompI.done {K : PySem.W.Frag} {M1 M : Trk} {H1 H : Hp} {D : Addr} {h : Hs} {acc : List P} {xs : List V} (c : CompI T K M1 H1 D M H h acc xs) (hD : H1 D = none) (nD : D ∉ M1.no) :
    Ext M1 H1 (unbar M D c.out) H ∧ HR T K (unbar M D c.out) H h ∧ RV T K (unbar M D c.out) H (.p (.lst acc)) (.ref D) := by
  refine ⟨⟨c.ext.pre, fun a ha => mem_unbar.mpr ⟨c.ext.nos a ha, fun z => nD (by rw [← z]; exact ha)⟩, fun a h1 h2 => c.ext.new a (mem_unbar.mp h1).1 h2, c.ext.keep, c.ext.live, c.ext.mms, c.ext.mnew⟩,
    c.hr.less rfl rfl fun a ha => (mem_unbar.mp ha).1, .p (.lst c.at' (fun z => (mem_unbar.mp z).2 rfl) (c.r.less (fun a ha => (mem_unbar.mp ha).1) fun _ h => h))⟩
theorem comp_reads {mi : MI} {g : MG} {tt : MT} {te : ME} {js vs : List Nat} (hv : ∀ j ∈ js, j ∈ vs) {σ : L2.St} {H : Hp} {Q : VK} {K : PySem.W.Frag} (q : tr T K W (mComp mi g tt te vs) σ H Q) :
    tLc (trI T K W mi) (trG T K js g) (trT T K W0 tt) (tr T K W0 te) vs σ H Q := by
  obtain ⟨S, M, h, sr, hr, p⟩ := q
  refine ⟨S, M, h, sr, hr, p.bnd fun I h1 M1 H1 J e1 hr1 r1 p1 => fun D hD => ?_⟩
  split at p1
  · rename_i hz
    have nD : D ∉ M1.no := hr1.none_out hD
    have sr1 := sr.ext e1
    -- what is left to do, from the place i on
    let Rest : Nat → Nat → Hs → List P → Prop := fun m i h' acc => post T K (RV T K) M1 H1 (erAt T W σ) Q (bnd (compL g tt te (wipeS S vs) I m i h') fun ys h2 => ret (.p (.lst (acc ++ ys))) h2)
    refine ⟨fun i m H' => ∃ M' h' acc xs, i + m = I.len h1 ∧ acc.length ≤ i ∧ CompI T K M1 H1 D M' H' h' acc xs ∧ Rest m i h' acc,
      ⟨I.len h1, M1.bar D, h1, [], [], Nat.zero_add _, Nat.le_refl _, ⟨.bar hD, hr1.bar hD, List.mem_append_right _ (by simp), upd_same, hr1.none_out' hD, .nil⟩, by simpa [Rest] using p1⟩, ?_⟩
    rintro i m H2 ⟨M2, h2, acc, xs, hm, hacc, c2, p2⟩
    obtain ⟨q1, q2⟩ := r1 i M2 H2 h2 c2.ext.b c2.hr
    have p2 : post T K (RV T K) M1 H1 (erAt T W σ) Q (bnd (compL g tt te (wipeS S vs) I m i h2) fun ys h2 => ret (.p (.lst (acc ++ ys))) h2) := p2
    cases hat : I.at i h2 with
    | none => cases m <;> (simp only [compL, hat] at p2; exact p2.elim)
    | some o =>
      cases o with
      | none =>
        refine .inl ⟨q2 hat, ?_⟩
        have p3 : post T K (RV T K) M1 H1 (erAt T W σ) Q (ret (.p (.lst acc)) h2) := by
          cases m <;> simpa [compL, hat, bnd, ret] using p2
        obtain ⟨a1, a2, a3⟩ := c2.done hD nD
        exact p3.ret a1 a2 a3
      | some d =>
        cases m with
        | zero => simp only [compL, hat] at p2; exact p2.elim
        | succ m =>
          refine .inr ?_
          obtain ⟨go, yl⟩ := q1 d hat
          refine ⟨go, fun H' => ∃ M' h' acc xs, acc.length ≤ i + 1 ∧ CompI T K M1 H1 D M' H' h' acc xs ∧ Rest m (i + 1) h' acc, ?_, fun x H' hy => ?_⟩
          · rintro H' ⟨M', h', ac, xs', a0, a1, a2⟩
            exact ⟨m, Nat.lt_succ_self _, M', h', ac, xs', by omega, a0, a1, a2⟩
          · obtain ⟨e3, hr3, rx⟩ := yl x H' hy
            simp only [compL, hat] at p2
            cases eg : g d (wipeS S vs) with
            | none => rw [eg] at p2; exact p2.elim
            | some S3 =>
              rw [eg] at p2
              dsimp only at p2
              have c3 := c2.step e3 hr3
              have srw : SR T K M2 H' (wipeS S vs) (L2.wipe σ vs) := (sr1.ext c3.ext).wipe vs
              refine ⟨wipeS S vs, M2, h2, d, S3, srw, hr3, rx, eg, fun σ3 sr3 w3 => ?_⟩
              refine ⟨by rw [w3 vs hv, wipe_wipe], S3, M2, h2, sr3, hr3, ?_⟩
              rw [bnd_bnd] at p2
              refine post_bndE p2 fun b h3 M3 H3 x3 e4 hr4 r4 p5 => ?_
              cases (r4 : b = x3)
              have c4 := c3.step e4 hr4
              cases b with
              | false => exact ⟨M3, h3, acc, xs, by omega, c4, by simpa using p5⟩
              | true =>
                refine ⟨S3, M3, h3, sr3.ext e4, hr4, ?_⟩
                simp only [if_true] at p5
                rw [bnd_bnd] at p5
                refine post_bndE p5 fun v h4 M4 H4 y e5 hr5 r5 p7 => ?_
                have c5 := c4.step e5 hr5
                cases r5 with
                | ref _ => exact p7.elim
                | p ry =>
                  rename_i yd
                  have lx : xs.length ≤ i := by rw [← c5.r.length]; exact hacc
                  refine ⟨xs, c5.at', lt_line (by omega), M4, h4, acc ++ [yd], xs ++ [y], by simp; omega, c5.push hD ry, ?_⟩
                  have p7 : post T K (RV T K) M1 H1 (erAt T W σ) Q (bnd (bnd (compL g tt te (wipeS S vs) I m (i + 1) h4) fun ys h3 => ret (yd :: ys) h3) fun ys h2 => ret (.p (.lst (acc ++ ys))) h2) := p7
                  rw [bnd_bnd] at p7
                  have e : (fun (ys : List P) (h3 : Hs) => ret (Vl.p (.lst (acc ++ yd :: ys))) h3) = fun ys h3 => ret (Vl.p (.lst ((acc ++ [yd]) ++ ys))) h3 := by
                    funext ys h3
                    rw [List.append_assoc]
                    rfl
                  show post T K (RV T K) M1 H1 (erAt T W σ) Q (bnd (compL g tt te (wipeS S vs) I m (i + 1) h4) fun ys h2 => ret (.p (.lst ((acc ++ [yd]) ++ ys))) h2)
                  rw [← e]
                  exact p7
  · exact p1.elim
/-- [e for x in it if ..] -/
theorem sim_lc {elt tg iter : Expr} {ifs : List Expr} {scope : Scope} (own : List (Str × Nat)) {pos : Pos} {mi : MI} {js : List Nat} {g : MG} {tt : MT} {te : ME} (hc : X.calm = true) (hN : X.N.Nodup) (hi : SimI T X W tg iter mi) (ok : BlkOk X.N X.env.scope scope own)
    (hg : ∀ (s : Shared) (H : Hp) (C : Addr) (cl : List (Str × Addr)) (fp : List Addr), SimG T (X.blk s H scope (compEnvC scope cl C X.env) fp) tg js g)
    (ht : ∀ (s : Shared) (H : Hp) (C : Addr) (cl : List (Str × Addr)) (fp : List Addr), SimTs T (X.blk s H scope (compEnvC scope cl C X.env) fp) W0 ifs tt)
    (he : ∀ (s : Shared) (H : Hp) (C : Addr) (cl : List (Str × Addr)) (fp : List Addr), SimE T (X.blk s H scope (compEnvC scope cl C X.env) fp) W0 elt te) (hv : ∀ j ∈ js, j ∈ own.map (·.2) := by decide)
    (hs : ∀ x, foldedSetIterable iter X.env x = pure x := by intro _; rfl) : SimE T X W (.ListComp elt [⟨tg, iter, ifs, 0⟩] scope pos) (mComp mi g tt te (own.map (·.2))) :=
  PE.weak (pe_lc hc hN hi ok hg ht he hs) fun _ _ _ q => comp_reads hv q
theorem sim_setLc (i : Nat) {y : Str} {py : Pos} {elt tg iter : Expr} {ifs : List Expr} {scope : Scope} (own : List (Str × Nat)) {pos spos : Pos} {mi : MI} {js : List Nat} {g : MG} {tt : MT} {te : ME} (hc : X.calm = true) (hN : X.N.Nodup) (hi : SimI T X W tg iter mi) (ok : BlkOk X.N X.env.scope scope own)
    (hsw : swapsWith (.ListComp elt [⟨tg, iter, ifs, 0⟩] scope pos) (some (.Name y py)) spos.line X.env = pure true)
    (hg : ∀ (s : Shared) (H : Hp) (C : Addr) (cl : List (Str × Addr)) (fp : List Addr), SimG T (X.blk s H scope (compEnvC scope cl C X.env) fp) tg js g)
    (ht : ∀ (s : Shared) (H : Hp) (C : Addr) (cl : List (Str × Addr)) (fp : List Addr), SimTs T (X.blk s H scope (compEnvC scope cl C X.env) fp) W0 ifs tt)
    (he : ∀ (s : Shared) (H : Hp) (C : Addr) (cl : List (Str × Addr)) (fp : List Addr), SimE T (X.blk s H scope (compEnvC scope cl C X.env) fp) W0 elt te) (hv : ∀ j ∈ js, j ∈ own.map (·.2) := by decide)
    (hy : X.N[i]? = some y := by rfl) (hyl : X.env.scope.names.lookup y = some .local := by rfl)
    (hs : ∀ x, foldedSetIterable iter X.env x = pure x := by intro _; rfl) : SimS T X W (.Assign [.Name y py] (.ListComp elt [⟨tg, iter, ifs, 0⟩] scope pos) spos) (sSet i (mComp mi g tt te (own.map (·.2)))) := by
  refine PS.weak (ps_setLc (wi := trI T X.K W mi) (g := trG T X.K js g) (tt := trT T X.K W0 tt) (te := tr T X.K W0 te) hc hN hy hyl hsw hi ok hg ht he hs) fun D σ H ⟨S, M, h, sr, hr, p⟩ => ?_
  refine comp_reads hv ⟨S, M, h, sr, hr, p.bnd sr fun v h1 M1 H1 x e1 sr1 hr1 r1 p1 => ?_⟩
  exact p1 M1 H1 _ .refl hr1 (sr1.set r1 i)
end
end EV
end T5
section T6
set_option Elab.async false
set_option linter.all false
set_option maxRecDepth 100000
namespace EV
open PySem PySem.Spec PyProof.Rows L2

/-! ### a def: its body run over the slots; what it made is forgotten, but what it hands back -/
def backV (fresh : Bool) (L : Nat) (v : Vl) (h' : Hs) : Rs Vl := match v with
  | .p d => some (.ok (.p d), h'.take L)
  | .ref n => if n < L then some (.ok (.ref n), h'.take L) else match h'[n]? with
    | some (.lst ds) => if fresh = true then some (.ok (.ref L), h'.take L ++ [.lst ds]) else some (.ok (.p (.lst ds)), h'.take L)
    | some (.ins c fs) => if fresh = true then some (.ok (.ref L), h'.take L ++ [.ins c fs]) else some (.ok (.p (.ins c fs)), h'.take L)
    | _ => none
def fnRun (np n : Nat) (fresh : Bool) (b : MS) (args : List Vl) (h : Hs) : Rs Vl :=
  if args.length = np then match b (args.map some ++ List.replicate (n - np) none) h with
    | none => none
    | some (.error c, _, h') => some (.error c, h'.take h.length)
    | some (.ok .nx, _, h') => some (.ok (.p .non), h'.take h.length)
    | some (.ok (.rt v), _, h') => backV fresh h.length v h'
    | some (.ok .bk, _, _) => none
    | some (.ok .ct, _, _) => none
  else none

section
variable {T : Tb} {K : PySem.W.Frag}
/-- behind a call: only what stood is tracked; what is kept for later stays -/
abbrev Trk.mix (M M' : Trk) : Trk := ⟨M.tk, M'.mm, M.no ++ M'.mm.map (·.1), fun a h => (List.mem_append.mp h).elim (fun z => List.mem_append_left _ (M.subT a z)) fun z => List.mem_append_right _ z, M'.inj⟩
theorem Ext.cut {M M' : Trk} {H H' : Hp} (e : Ext M H M' H') : Ext M H (M.mix M') H' := by
  refine ⟨⟨[], by simp⟩, fun _ h => List.mem_append_left _ h, fun a h1 h2 => ?_, e.keep, e.live, e.mms, e.mnew⟩
  rcases List.mem_append.mp h1 with z | z
  · exact absurd z h2
  · obtain ⟨m, hm, rfl⟩ := List.mem_map.mp z
    rcases e.mnew m hm with y | y
    · exact absurd (M.subM m y) h2
    · exact y
theorem Ext.nomix {M M' : Trk} {H H' : Hp} (e : Ext M H M' H') : ∀ a ∈ (M.mix M').no, a ∈ M'.no := fun a ha => by
  rcases List.mem_append.mp ha with z | z
  · exact e.nos a z
  · obtain ⟨m, hm, rfl⟩ := List.mem_map.mp z
    exact M'.subM m hm
theorem Ext.tk_take {M M' : Trk} {H H' : Hp} (e : Ext M H M' H') : M'.tk.take M.tk.length = M.tk := by
  obtain ⟨m, e1, _⟩ := e.pre
  rw [e1, List.take_left]
theorem HR.cut {M M' : Trk} {H H' : Hp} {h h' : Hs} (e : Ext M H M' H') (hr0 : HR T K M H h) (hr : HR T K M' H' h') : HR T K (M.mix M') H' (h'.take h.length) := by
  have hle : h.length ≤ h'.length := by
    rw [← hr0.len, ← hr.len]
    obtain ⟨m, e1, _⟩ := e.pre
    rw [e1, List.length_append]
    exact Nat.le_add_right _ _
  refine ⟨by rw [hr0.len, List.length_take]; omega, hr0.nd, fun a ha => hr.pos a (e.nomix a ha), fun n a p e1 e2 => ?_, fun m hm => let ⟨kvs, q, k⟩ := hr.mem m hm; ⟨kvs, q, k.less e.nomix fun _ h => h⟩⟩
  have hn : n < h.length := by rw [← hr0.len]; exact (List.getElem?_eq_some_iff.mp e1).1
  rw [List.getElem?_take_of_lt hn] at e2
  exact (hr.at' n a p (e.get e1) e2).less e.nomix fun _ h => h
theorem RV.cut {M M' : Trk} {H H' : Hp} {d : P} {x : V} (e : Ext M H M' H') (r : RV T K M' H' (.p d) x) : RV T K (M.mix M') H' (.p d) x := by
  cases r with | p r => exact .p (r.less e.nomix fun _ h => h)
/-- a tracked object is handed back: data from now on -/
theorem froz {M M' : Trk} {H H' : Hp} {a : Addr} {d : P} (e : Ext M H M' H') (c : Cell T K M' H' a d) (n : a ∉ (M.mix M').no) : Rp T K (M.mix M') H' d (.ref a) := by
  cases c with
  | lst q r => exact .lst q n (r.less e.nomix fun _ h => h)
  | ins q e1 r => exact .ins q n e1 (r.less e.nomix fun _ h => h)
theorem newer {M M' : Trk} {H H' : Hp} {h : Hs} (e : Ext M H M' H') (hr : HR T K M H h) {n : Nat} {a : Addr} (hn : ¬ n < h.length) (ea : M'.tk[n]? = some a) : H a = none := by
  obtain ⟨m, e1, g⟩ := e.pre
  rw [e1, List.getElem?_append_right (by rw [hr.len]; exact Nat.le_of_not_lt hn)] at ea
  exact g a (List.mem_of_getElem? ea)
theorem post_back {M M' : Trk} {H H' : Hp} {h h' : Hs} {Er : Exn → Hp → Prop} {Q : VK} {fresh : Bool} {v : Vl} {x : V} (e : Ext M H M' H') (hr0 : HR T K M H h) (hr : HR T K M' H' h') (r : RV T K M' H' v x)
    (p : post T K (RV T K) M H Er Q (backV fresh h.length v h')) : Q x H' := by
  unfold backV at p
  split at p
  · exact p _ H' x e.cut (HR.cut e hr0 hr) (r.cut e)
  · rename_i n
    cases r with
    | ref ea =>
      rename_i a
      split at p
      · rename_i hn
        refine p (M.mix M') H' _ e.cut (HR.cut e hr0 hr) (.ref ?_)
        obtain ⟨m, e1, _⟩ := e.pre
        rw [e1, List.getElem?_append_left (by rw [hr0.len]; exact hn)] at ea
        exact ea
      · rename_i hn
        have hna : H a = none := newer e hr0 hn ea
        have no : a ∉ M.no := hr0.none_out hna
        obtain ⟨d, hd, c⟩ := hr.got ea
        rw [hd] at p
        have nmem : ∀ m ∈ M'.mm, m.1 ≠ a := fun m hm z => by
          obtain ⟨kvs, q, _⟩ := hr.mem m hm
          rw [z] at q
          cases c with
          | lst y _ => rw [y] at q; cases q
          | ins y _ _ => rw [y] at q; cases q
        have noM : a ∉ (M.mix M').no := fun z => by
          rcases List.mem_append.mp z with z | z
          · exact no z
          · obtain ⟨m, hm, e⟩ := List.mem_map.mp z
            exact nmem m hm e
        -- the fresh one, tracked on
        have fr : ∀ {d : P}, Cell T K M' H' a d → Ext M H ((M.mix M').add a) H' ∧ HR T K ((M.mix M').add a) H' (h'.take h.length ++ [d]) ∧ RV T K ((M.mix M').add a) H' (.ref h.length) (.ref a) := fun {d} c => by
          have hc := HR.cut e hr0 hr
          have hin : ∀ b ∈ ((M.mix M').add a).no, b ∈ M'.no := fun b hb => by
            rcases List.mem_append.mp hb with z | z
            · exact e.nomix b z
            · have z' : b = a := by simpa using z
              rw [z']; exact M'.subT a (List.mem_of_getElem? ea)
          have hlen : (h'.take h.length).length = h.length := by rw [← hc.len, hr0.len]
          refine ⟨⟨⟨[a], rfl, fun b hb => by rw [show b = a by simpa using hb]; exact hna⟩, fun b hb => List.mem_append_left _ (List.mem_append_left _ hb), fun b h1 h2 => ?_, e.keep, e.live, e.mms, e.mnew⟩,
            ⟨by simp [hlen, hr0.len], List.nodup_append.mpr ⟨hr0.nd, by simp, fun b h1 b' h2 z => ?_⟩, fun b hb => hr.pos b (hin b hb), fun k b q e1 e2 => ?_, fun m hm => let ⟨kvs, q, k⟩ := hr.mem m hm; ⟨kvs, q, k.less hin fun _ h => h⟩⟩, .ref ?_⟩
          · rcases List.mem_append.mp h1 with z | z
            · exact e.cut.new b z h2
            · rw [show b = a by simpa using z]; exact hna
          · have z' : b' = a := by simpa using h2
            exact no (M.subT a (by rw [← z', ← z]; exact h1))
          · have e1 : (M.tk ++ [a])[k]? = some b := e1
            by_cases hk : k < M.tk.length
            · rw [List.getElem?_append_left hk] at e1
              rw [List.getElem?_append_left (by rw [hlen, ← hr0.len]; exact hk)] at e2
              rw [List.getElem?_take_of_lt (by rw [← hr0.len]; exact hk)] at e2
              exact (hr.at' k b q (e.get e1) e2).less hin fun _ h => h
            · rw [List.getElem?_append_right (Nat.le_of_not_lt hk)] at e1
              rw [List.getElem?_append_right (by rw [hlen, ← hr0.len]; exact Nat.le_of_not_lt hk), hlen, ← hr0.len] at e2
              cases hz : k - M.tk.length with
              | zero =>
                rw [hz] at e1 e2
                simp at e1 e2
                subst e1 e2
                exact c.less hin fun _ h => h
              | succ m => rw [hz] at e1; simp at e1
          · show (M.tk ++ [a])[h.length]? = some a
            rw [← hr0.len, List.getElem?_append_right (Nat.le_refl _), Nat.sub_self]; rfl
        cases c with
        | lst q r =>
          dsimp only at p
          split at p
          · obtain ⟨a1, a2, a3⟩ := fr (.lst q r)
            exact p _ H' _ a1 a2 a3
          · exact p _ H' _ e.cut (HR.cut e hr0 hr) (.p (froz e (.lst q r) noM))
        | ins q e1 r =>
          dsimp only at p
          split at p
          · obtain ⟨a1, a2, a3⟩ := fr (.ins q e1 r)
            exact p _ H' _ a1 a2 a3
          · exact p _ H' _ e.cut (HR.cut e hr0 hr) (.p (froz e (.ins q e1 r) noM))
theorem sr_start {M : Trk} {H : Hp} : ∀ {args : List Vl} {vs : List V} (k : Nat), RVA T K M H args vs → SR T K M H (args.map some ++ List.replicate k none) (vs.map some ++ List.replicate k none) := fun {args vs} k r => by
  refine ⟨by simp [r.length], fun i v h => ?_⟩
  by_cases hi : i < args.length
  · rw [List.getElem?_append_left (by simpa using hi), List.getElem?_map] at h
    cases q : args[i]? with
    | none => rw [q] at h; cases h
    | some u =>
      rw [q] at h
      cases h
      have : ∀ {args : List Vl} {vs : List V} {i : Nat}, RVA T K M H args vs → args[i]? = some v → ∃ x, vs[i]? = some x ∧ RV T K M H v x := by
        intro args vs i r q
        induction r generalizing i with
        | nil => simp at q
        | cons h r ih =>
          cases i with
          | zero => simp at q; subst q; exact ⟨_, rfl, h⟩
          | succ j => exact ih (by simpa using q)
      obtain ⟨x, hx, rx⟩ := this r q
      refine ⟨x, ?_, rx⟩
      rw [List.getElem?_append_left (by rw [List.length_map, ← r.length]; exact hi), List.getElem?_map, hx]; rfl
  · rw [List.getElem?_append_right (by simpa using Nat.le_of_not_lt hi)] at h
    have h := List.mem_of_getElem? h
    exact absurd (List.eq_of_mem_replicate h) (by simp)
end
section
variable {P : Program} {w : World} {K : PySem.W.Frag} {mg : Str → Option Value} {base : Heap} {T : Tb}
/-- what is asked of a def's body -/
def BodyOk (P : Program) (w : World) (K : PySem.W.Frag) (mg : Str → Option Value) (base : Heap) (T : Tb) (k : Nat) (qual : Str) (st : Stmt) (f : Addr) (N : List Str) (b : MS) : Prop :=
  ∀ (cdv : Value) (A : Around) (outer : List Env) (s : Shared) (H : Hp) (E : XK), Room k (A.deeper (envOfC qual (defScope st) s.heap.objs.size f cdv)) →
      PassesOwn (model P w) (A.deeper (envOfC qual (defScope st) s.heap.objs.size f cdv)) (envOfC qual (defScope st) s.heap.objs.size f cdv) (cxOf (L2.CX P w) P w K mg base N qual (defScope st) f cdv A outer s H E).xe →
      Takes (cxOf (L2.CX P w) P w K mg base N qual (defScope st) f cdv A outer s H E) (fun cls d _ H => E cls d H) →
      SimSs T (cxOf (L2.CX P w) P w K mg base N qual (defScope st) f cdv A outer s H E) (fun cls d _ H => E cls d H) (defBody st) b
theorem body_runs {qual : Str} {st : Stmt} {f : Addr} {N : List Str} {k np : Nat} {b : MS} {fresh : Bool} (B : BodyOk P w K mg base T k qual st f N b) {cdv : Value} {A : Around} {outer : List Env} {s : Shared} {H : Hp} {E : XK} {vs : List V} {Q : VK}
    (hr : Room k (A.deeper (envOfC qual (defScope st) s.heap.objs.size f cdv))) (hl : vs.length = np) (h : spF T K (fnRun np N.length fresh b) vs H Q E) :
    ∃ t, PSs (cxOf (L2.CX P w) P w K mg base N qual (defScope st) f cdv A outer s H E) (defBody st) t ∧ t { nx := fun _ H' => Q .non H', rt := Q } (L2.start N vs) H := by
  obtain ⟨args, M, h, ra, hR, p⟩ := h
  refine ⟨_, B cdv A outer s H E hr (passes_of (X := cxOf (L2.CX P w) P w K mg base N qual (defScope st) f cdv A outer s H E) rfl) (takes_of rfl rfl rfl rfl), ?_⟩
  have ha : args.length = np := by rw [ra.length]; exact hl
  refine ⟨args.map some ++ List.replicate (N.length - np) none, M, h, ?_, hR, ?_⟩
  · have q := sr_start (T := T) (K := K) (N.length - np) ra
    unfold L2.start
    rw [hl]
    exact q
  · unfold fnRun at p
    rw [if_pos ha] at p
    match e : b (args.map some ++ List.replicate (N.length - np) none) h, p with
    | some (.error c, S', h'), p => exact fun M' H' σ' e' hr' _ => p _ H' e'.cut (HR.cut e' hR hr')
    | some (.ok .nx, S', h'), p => exact fun M' H' σ' e' hr' _ => p _ H' _ e'.cut (HR.cut e' hR hr') (.p .non)
    | some (.ok (.rt v), S', h'), p => exact fun M' H' x e' hr' r' => post_back e' hR hr' r' p
theorem spF_len {vs : List V} {H : Hp} {Q : VK} {E : XK} {np n : Nat} {fresh : Bool} {b : MS} (h : spF T K (fnRun np n fresh b) vs H Q E) : vs.length = np := by
  obtain ⟨args, M, h', ra, hR, p⟩ := h
  rw [← ra.length]
  unfold fnRun at p
  split at p
  · assumption
  · exact p.elim
/-- THE RULE for a def -/
theorem fn_sim {x qual : Str} {st : Stmt} {f : Addr} {fd : FuncData} {N ps : List Str} {k : Nat} {b : MS} {fresh : Bool} (F : Fun K x qual st f fd) (S : FnScope N ps (defScope st)) (hb : Binds K fd ps [])
    (hbody : BodyOk P w K mg base T k qual st f N b) : FnR P w K mg base (L2.CX P w) (k + 1) f (spF T K (fnRun ps.length N.length fresh b)) := by
  intro A outer s H us vs Q E hr e0 r h
  have hl := spF_len h
  obtain ⟨oc, od, kV, doc, pm, an, cdv, ct, osl, rfl, lk, hcd⟩ := F.ex
  have KX : K.In s.heap := e0.mod.kin.keeps fun b o e => (e0.bs b o e).1
  have hb' := hb s us KX (by rw [List.append_nil, ← r.length]; exact hl)
  rw [List.append_nil] at hb'
  exact LamX.run_ofS lk hcd S hr.r e0 hb' r hl fun _ => body_runs hbody (hr.deeper _) hl h
end
end EV
end T6
section T7
set_option Elab.async false
set_option linter.all false
set_option maxRecDepth 100000
namespace EV
open PySem PySem.Spec PyProof.Rows L2

section
variable {T : Tb} {X : Cx} {W : WX}
/-! ### xs[i] = e -/
def wSub (o i v : Vl) (S : Sl) (h : Hs) : RS := match o, i, v with
  | .ref n, .p (.int k), .p d => match h[n]? with
    | some (.lst ds) => match ixN ds.length k with
      | some j => some (.ok .nx, S, h.set n (.lst (ds.set j d)))
      | none => none
    | _ => none
  | _, _, _ => none
def sSub (m mo mi : ME) : MS := fun S h => bndS (m S h) S fun v h1 => bndS (mo S h1) S fun o h2 => bndS (mi S h2) S fun i h3 => wSub o i v S h3
theorem sim_setSub {e o i : Expr} {m mo mi : ME} {pos pos' : Pos} (he : SimE T X W e m) (ho : SimE T X W o mo) (hi : SimE T X W i mi)
    (ha : ∀ v, assign (.Subscript o i pos') X.env v = (do
      let ov ← holding [v] (eval o X.env)
      let iv ← holding [v, ov] (eval i X.env)
      standAt pos'
      holding [v, ov, iv] (setItem ov iv v)
      release [v, ov, iv] []) := by intro _; rfl)
    (hs : swapsWithSole [.Subscript o i pos'] e pos.line X.env = pure false := by rfl) (hw : swappedStores [.Subscript o i pos'] e X.env = pure none := by rfl) : SimS T X W (.Assign [.Subscript o i pos'] e pos) (sSub m mo mi) := by
  refine PS.weak (ps_asg he (pg_sub ho hi set_list ha) hs hw) fun D σ H ⟨S, M, h, sr, hr, p⟩ => ⟨S, M, h, sr, hr, p.bnd sr fun v h1 M1 H1 x e1 sr1 hr1 r1 p1 => ?_⟩
  refine ⟨S, M1, h1, sr1, hr1, p1.bnd sr1 fun ov h2 M2 H2 y e2 sr2 hr2 r2 p2 => ?_⟩
  refine ⟨S, M2, h2, sr2, hr2, p2.bnd sr2 fun iv h3 M3 H3 z e3 sr3 hr3 r3 p3 => ?_⟩
  unfold wSub at p3
  split at p3
  · rename_i n k d
    have r2 := r2.ext e3
    have r1 := (r1.ext e2).ext e3
    cases r2 with
    | ref ea =>
      rename_i a
      obtain ⟨q, hq, c⟩ := hr3.got ea
      rw [hq] at p3
      cases c with
      | lst hx rx =>
        rename_i xs ds
        dsimp only at p3
        split at p3
        · rename_i j hj
          cases r3 with
          | p r3 =>
            cases r3
            cases r1 with
            | p r1 =>
              refine ⟨a, xs, k, j, rfl, rfl, hx, by rw [← rx.length]; exact hj, ?_⟩
              have ta : a ∈ M3.tk := List.mem_of_getElem? ea
              have w : Ext M3 H3 M3 (L2.upd H3 a (.lst (xs.set j x))) := .write ta
              exact p3 M3 _ σ w (hr3.write ea (.lst upd_same ((RpA.set r1 j rx).ext w))) (sr3.ext w)
        · exact p3.elim
      | ins _ _ _ => exact p3.elim
  · exact p3.elim

/-! ### methods of built-in types -/
def isLstV (v : Vl) (h : Hs) : Bool := match v with
  | .p (.lst _) => true
  | .p (.scr _) => true
  | .ref n => match h[n]? with
    | some (.lst _) => true
    | _ => false
  | _ => false
def isStrV (v : Vl) : Bool := match v with
  | .p (.str _) => true
  | _ => false
theorem ty_lst {M : Trk} {H : Hp} {h : Hs} {v : Vl} {x : V} (hr : HR T X.K M H h) (r : RV T X.K M H v x) (e : isLstV v h = true) : tyV X.K "list" x H := by
  unfold isLstV at e
  split at e
  · cases r with | p r => cases r with | lst a b c => exact .inl ⟨rfl, _, .of a⟩
  · cases r with | p r => cases r with | scr a b => exact .inl ⟨rfl, _, a.sqL⟩
  · cases r with
    | ref ea =>
      obtain ⟨q, hq, c⟩ := hr.got ea
      rw [hq] at e
      cases c with
      | lst a b => exact .inl ⟨rfl, _, .of a⟩
      | ins _ _ _ => cases e
  · cases e
theorem ty_str {M : Trk} {H : Hp} {v : Vl} {x : V} (r : RV T X.K M H v x) (e : isStrV v = true) : tyV X.K "str" x H := by
  unfold isStrV at e
  split at e
  · cases r with | p r => cases r; rfl
  · cases e
def MtS (T : Tb) (K : PySem.W.Frag) (f : Vl → List Vl → Hs → Rs Vl) (r : V → List V → Hp → VK → Prop) : Prop :=
  ∀ M H h v x vs xs Er Q, HR T K M H h → RV T K M H v x → RVA T K M H vs xs → post T K (RV T K) M H Er Q (f v vs h) → r x xs H Q
def mMethL (f : Vl → List Vl → Hs → Rs Vl) (o : ME) (a : MA) : ME := fun S h => bnd (o S h) fun v h1 => if isLstV v h1 = true then bnd (a S h1) fun vs h2 => f v vs h2 else none
def mMethS (f : Vl → List Vl → Hs → Rs Vl) (o : ME) (a : MA) : ME := fun S h => bnd (o S h) fun v h1 => if isStrV v = true then bnd (a S h1) fun vs h2 => f v vs h2 else none
section
variable {o e : Expr} {es : List Expr} {mo : ME} {ma : MA} {name : Str} {apos cpos : Pos} {id : String} {r : V → List V → Hp → VK → Prop} {f : Vl → List Vl → Hs → Rs Vl}
theorem sim_methL (slot : Slot "list" name id) (hty : typeOf (.builtin id) = pure (.type "method_descriptor")) (hm : MtR X id r) (hf : MtS T X.K f r) (ho : SimE T X W o mo) (ha : SimA T X W (e :: es) ma)
    (hbase : attributeBase o name X.env (eval o X.env) = eval o X.env := by rfl)
    (hfew : ((backTo cpos (starEach (e :: es) X.env)).all (fun x => !x.1) && (backToKw cpos (keywordEach [] X.env)).all (fun x => x.1.isSome)
      && decide ((e :: es).length + ([] : List Keyword).length + (if ([] : List Keyword).isEmpty then 0 else 1) < 30)) = true := by rfl)
    (hline : (apos.endLine == cpos.line) = true := by rfl) (hs : starEach (e :: es) X.env = (false, eval e X.env) :: starEach es X.env := by rfl) (hpl : (backTo cpos (starEach es X.env)).any (·.1) = false := by rfl) :
    SimE T X W (.Call (.Attribute o name apos) (e :: es) [] cpos) (mMethL f mo ma) := by
  refine PE.weak (pe_bm PySem.F.plainAttrs_list slot hty hm ho ha hbase hfew hline hs hpl) fun σ H Q ⟨S, M, h, sr, hr, p⟩ => tr_then sr hr p fun v h1 M1 H1 x e1 sr1 hr1 r1 p1 => ?_
  split at p1
  · rename_i ht
    exact ⟨ty_lst hr1 r1 ht, trA_then sr1 hr1 p1 fun vs h2 M2 H2 xs e2 sr2 hr2 r2 p2 => hf M2 H2 h2 v x vs xs _ Q hr2 (r1.ext e2) r2 p2⟩
  · exact p1.elim
theorem sim_methL0 (slot : Slot "list" name id) (hty : typeOf (.builtin id) = pure (.type "method_descriptor")) (hm : MtR X id r) (hf : MtS T X.K f r) (ho : SimE T X W o mo)
    (hbase : attributeBase o name X.env (eval o X.env) = eval o X.env := by rfl) (hline : (apos.endLine == cpos.line) = true := by rfl) : SimE T X W (.Call (.Attribute o name apos) [] [] cpos) (mMethL f mo aNil) := by
  refine PE.weak (pe_bm0 PySem.F.plainAttrs_list slot hty hm ho hbase hline) fun σ H Q ⟨S, M, h, sr, hr, p⟩ => tr_then sr hr p fun v h1 M1 H1 x e1 sr1 hr1 r1 p1 => ?_
  split at p1
  · rename_i ht
    exact ⟨ty_lst hr1 r1 ht, hf M1 H1 h1 v x [] [] _ Q hr1 r1 .nil p1⟩
  · exact p1.elim
theorem sim_methS (slot : Slot "str" name id) (hty : typeOf (.builtin id) = pure (.type "method_descriptor")) (hm : MtR X id r) (hf : MtS T X.K f r) (ho : SimE T X W o mo) (ha : SimA T X W (e :: es) ma)
    (hbase : attributeBase o name X.env (eval o X.env) = eval o X.env := by rfl)
    (hfew : ((backTo cpos (starEach (e :: es) X.env)).all (fun x => !x.1) && (backToKw cpos (keywordEach [] X.env)).all (fun x => x.1.isSome)
      && decide ((e :: es).length + ([] : List Keyword).length + (if ([] : List Keyword).isEmpty then 0 else 1) < 30)) = true := by rfl)
    (hline : (apos.endLine == cpos.line) = true := by rfl) (hs : starEach (e :: es) X.env = (false, eval e X.env) :: starEach es X.env := by rfl) (hpl : (backTo cpos (starEach es X.env)).any (·.1) = false := by rfl) :
    SimE T X W (.Call (.Attribute o name apos) (e :: es) [] cpos) (mMethS f mo ma) := by
  refine PE.weak (pe_bm PySem.F.plainAttrs_str slot hty hm ho ha hbase hfew hline hs hpl) fun σ H Q ⟨S, M, h, sr, hr, p⟩ => tr_then sr hr p fun v h1 M1 H1 x e1 sr1 hr1 r1 p1 => ?_
  split at p1
  · rename_i ht
    exact ⟨ty_str r1 ht, trA_then sr1 hr1 p1 fun vs h2 M2 H2 xs e2 sr2 hr2 r2 p2 => hf M2 H2 h2 v x vs xs _ Q hr2 (r1.ext e2) r2 p2⟩
  · exact p1.elim
end
/-! append, extend, pop -/
def fAppend (v : Vl) (vs : List Vl) (h : Hs) : Rs Vl := match v, vs with
  | .ref n, [.p d] => match h[n]? with
    | some (.lst ds) => if ds.length < 16777216 then ret (.p .non) (h.set n (.lst (ds ++ [d]))) else none
    | _ => none
  | _, _ => none
theorem s_append : MtS T X.K fAppend rAppend := by
  intro M H h v x vs xs Er Q hr rx rvs p
  unfold fAppend at p
  split at p
  · cases rx with
    | ref ea =>
      obtain ⟨q, hq, c⟩ := hr.got ea
      rw [hq] at p
      cases c with
      | lst hx ra =>
        dsimp only at p
        split at p
        · rename_i hz
          cases rvs with
          | cons r1 r2 =>
            cases r2
            cases r1 with
            | p r1 =>
              refine ⟨_, _, _, rfl, rfl, hx, by rw [← ra.length]; exact lt_line hz, ?_⟩
              have w := fun (o : HO) => Ext.write (M := M) (H := H) (o := o) (List.mem_of_getElem? ea)
              exact p M _ _ (w _) (hr.write ea (.lst upd_same ((ra.append (.cons r1 .nil)).ext (w _)))) (.p .non)
        · exact p.elim
      | ins _ _ _ => exact p.elim
  · exact p.elim
def fExtend (v : Vl) (vs : List Vl) (h : Hs) : Rs Vl := match v, vs with
  | .ref n, [.p (.lst es)] => match h[n]? with
    | some (.lst ds) => if ds.length + es.length ≤ 16777216 then ret (.p .non) (h.set n (.lst (ds ++ es))) else none
    | _ => none
  | _, _ => none
theorem s_extend : MtS T X.K fExtend rExtend := by
  intro M H h v x vs xs Er Q hr rx rvs p
  unfold fExtend at p
  split at p
  · cases rx with
    | ref ea =>
      obtain ⟨q, hq, c⟩ := hr.got ea
      rw [hq] at p
      cases c with
      | lst hx ra =>
        dsimp only at p
        split at p
        · rename_i hz
          cases rvs with
          | cons r1 r2 =>
            cases r2
            cases r1 with
            | p r1 =>
              cases r1 with
              | lst hb nb rb =>
                refine ⟨_, _, _, _, rfl, rfl, hx, hb, by rw [← ra.length, ← rb.length]; exact le_line hz, ?_⟩
                have w := fun (o : HO) => Ext.write (M := M) (H := H) (o := o) (List.mem_of_getElem? ea)
                exact p M _ _ (w _) (hr.write ea (.lst upd_same ((ra.append rb).ext (w _)))) (.p .non)
        · exact p.elim
      | ins _ _ _ => exact p.elim
  · exact p.elim
def fPopAt (v : Vl) (vs : List Vl) (h : Hs) : Rs Vl := match v, vs with
  | .ref n, [.p (.int i)] => match h[n]? with
    | some (.lst ds) => if 0 ≤ i ∧ i < 2 ^ 63 then match ds[i.toNat]? with
        | some d => ret (.p d) (h.set n (.lst (ds.eraseIdx i.toNat)))
        | none => none
      else none
    | _ => none
  | _, _ => none
theorem s_popAt : MtS T X.K fPopAt rPopAt := by
  intro M H h v x vs xs Er Q hr rx rvs p
  unfold fPopAt at p
  split at p
  · cases rx with
    | ref ea =>
      obtain ⟨q, hq, c⟩ := hr.got ea
      rw [hq] at p
      cases c with
      | lst hx ra =>
        dsimp only at p
        split at p
        · rename_i hz
          split at p
          · rename_i d hd
            cases rvs with
            | cons r1 r2 =>
              cases r2
              cases r1 with
              | p r1 =>
                cases r1
                obtain ⟨u, hu, ru⟩ := ra.get hd
                have hlt := (List.getElem?_eq_some_iff.mp hu).1
                refine ⟨_, _, _, _, u, rfl, rfl, hx, by omega, hz.2, ?_, hu, ?_⟩
                · exact (ixN_seq (by unfold ixN; rw [if_pos hz.1, if_pos (by omega)])).1
                · have w := fun (o : HO) => Ext.write (M := M) (H := H) (o := o) (List.mem_of_getElem? ea)
                  exact p M _ _ (w _) (hr.write ea (.lst upd_same ((ra.erase _).ext (w _)))) (.p (ru.ext (w _)))
          · exact p.elim
        · exact p.elim
      | ins _ _ _ => exact p.elim
  · exact p.elim
def fPop (v : Vl) (vs : List Vl) (h : Hs) : Rs Vl := match v, vs with
  | .ref n, [] => match h[n]? with
    | some (.lst ds) => match ds[ds.length - 1]? with
      | some d => ret (.p d) (h.set n (.lst ds.dropLast))
      | none => none
    | _ => none
  | _, _ => none
theorem RpA.dropLast {K : PySem.W.Frag} {M : Trk} {H : Hp} {ds : List P} {vs : List V} (r : RpA T K M H ds vs) : RpA T K M H ds.dropLast vs.dropLast := by
  rw [List.dropLast_eq_take, List.dropLast_eq_take, r.length]
  exact r.take _
theorem s_pop : MtS T X.K fPop rPop := by
  intro M H h v x vs xs Er Q hr rx rvs p
  unfold fPop at p
  split at p
  · cases rx with
    | ref ea =>
      obtain ⟨q, hq, c⟩ := hr.got ea
      rw [hq] at p
      cases c with
      | lst hx ra =>
        dsimp only at p
        split at p
        · rename_i d hd
          cases rvs
          obtain ⟨u, hu, ru⟩ := ra.get hd
          rw [ra.length] at hu
          have w := fun (o : HO) => Ext.write (M := M) (H := H) (o := o) (List.mem_of_getElem? ea)
          exact ⟨_, _, u, rfl, rfl, hx, hu, p M _ _ (w _) (hr.write ea (.lst upd_same (ra.dropLast.ext (w _)))) (.p (ru.ext (w _)))⟩
        · exact p.elim
      | ins _ _ _ => exact p.elim
  · exact p.elim
section
variable {o e : Expr} {mo : ME} {ma : MA} {apos cpos : Pos}
theorem sim_append (ho : SimE T X W o mo) (ha : SimA T X W [e] ma)
    (hbase : attributeBase o "append" X.env (eval o X.env) = eval o X.env := by rfl)
    (hfew : ((backTo cpos (starEach [e] X.env)).all (fun x => !x.1) && (backToKw cpos (keywordEach [] X.env)).all (fun x => x.1.isSome)
      && decide ([e].length + ([] : List Keyword).length + (if ([] : List Keyword).isEmpty then 0 else 1) < 30)) = true := by rfl)
    (hline : (apos.endLine == cpos.line) = true := by rfl) (hs : starEach [e] X.env = (false, eval e X.env) :: starEach [] X.env := by rfl) (hpl : (backTo cpos (starEach [] X.env)).any (·.1) = false := by rfl) :
    SimE T X W (.Call (.Attribute o "append" apos) [e] [] cpos) (mMethL fAppend mo ma) := sim_methL PySem.F.slot_list_append PySem.F.type_list_append mt_append s_append ho ha hbase hfew hline hs hpl
theorem sim_extend (ho : SimE T X W o mo) (ha : SimA T X W [e] ma)
    (hbase : attributeBase o "extend" X.env (eval o X.env) = eval o X.env := by rfl)
    (hfew : ((backTo cpos (starEach [e] X.env)).all (fun x => !x.1) && (backToKw cpos (keywordEach [] X.env)).all (fun x => x.1.isSome)
      && decide ([e].length + ([] : List Keyword).length + (if ([] : List Keyword).isEmpty then 0 else 1) < 30)) = true := by rfl)
    (hline : (apos.endLine == cpos.line) = true := by rfl) (hs : starEach [e] X.env = (false, eval e X.env) :: starEach [] X.env := by rfl) (hpl : (backTo cpos (starEach [] X.env)).any (·.1) = false := by rfl) :
    SimE T X W (.Call (.Attribute o "extend" apos) [e] [] cpos) (mMethL fExtend mo ma) := sim_methL PySem.F.slot_list_extend PySem.F.type_list_extend mt_extend s_extend ho ha hbase hfew hline hs hpl
theorem sim_popAt (ho : SimE T X W o mo) (ha : SimA T X W [e] ma)
    (hbase : attributeBase o "pop" X.env (eval o X.env) = eval o X.env := by rfl)
    (hfew : ((backTo cpos (starEach [e] X.env)).all (fun x => !x.1) && (backToKw cpos (keywordEach [] X.env)).all (fun x => x.1.isSome)
      && decide ([e].length + ([] : List Keyword).length + (if ([] : List Keyword).isEmpty then 0 else 1) < 30)) = true := by rfl)
    (hline : (apos.endLine == cpos.line) = true := by rfl) (hs : starEach [e] X.env = (false, eval e X.env) :: starEach [] X.env := by rfl) (hpl : (backTo cpos (starEach [] X.env)).any (·.1) = false := by rfl) :
    SimE T X W (.Call (.Attribute o "pop" apos) [e] [] cpos) (mMethL fPopAt mo ma) := sim_methL PySem.F.slot_list_pop PySem.F.type_list_pop mt_popAt s_popAt ho ha hbase hfew hline hs hpl
theorem sim_pop (ho : SimE T X W o mo)
    (hbase : attributeBase o "pop" X.env (eval o X.env) = eval o X.env := by rfl) (hline : (apos.endLine == cpos.line) = true := by rfl) :
    SimE T X W (.Call (.Attribute o "pop" apos) [] [] cpos) (mMethL fPop mo aNil) := sim_methL0 PySem.F.slot_list_pop PySem.F.type_list_pop mt_pop s_pop ho hbase hline
end
end
end EV
end T7
section T8
set_option Elab.async false
set_option linter.all false
set_option maxRecDepth 100000
namespace EV
open PySem PySem.Spec PyProof.Rows L2

section
variable {T : Tb} {X : Cx} {W : WX}
/-! max(a, b), min(a, b) -/
def kI2 (g : Int → Int → Int) (vs : List Vl) (h : Hs) : Rs Vl := match vs with
  | [.p (.int i), .p (.int j)] => pI (g i j) h
  | _ => none
theorem s_kI2 {g : Int → Int → Int} : OpN T X.K (kI2 g) (fun xs H Q => ∃ i j, xs = [.int i, .int j] ∧ Q (.int (g i j)) H) := by
  intro M H h vs xs Er Q hr r p
  unfold kI2 at p
  split at p
  · cases r with
    | cons r1 r =>
      cases r with
      | cons r2 r =>
        cases r
        cases r1 with
        | p r1 =>
          cases r2 with
          | p r2 =>
            cases r1
            cases r2
            exact ⟨_, _, rfl, p.ret .refl hr (.p (.int _))⟩
  · exact p.elim
abbrev kMax2 := kI2 fun i j => if j > i then j else i
abbrev kMin2 := kI2 fun i j => if j < i then j else i
section
variable {a b e : Expr} {m : MA} {p pos : Pos}
theorem sim_max2 (hc : X.calm = true) (hm : X.mg "max" = none) (ha : SimA T X W [a, b] m) (hg : Gl X "max" := by rfl) (he : starEach [a, b] X.env = (false, eval a X.env) :: starEach [b] X.env := by rfl) (hpl : (backTo pos (starEach [b] X.env)).any (·.1) = false := by rfl) : SimE T X W (.Call (.Name "max" p) [a, b] [] pos) (mAll kMax2 m) :=
  sim_callB (call_max2 hc) s_kI2 hg hm boot_max ha (he := he) (hpl := hpl)
theorem sim_min2 (hc : X.calm = true) (hm : X.mg "min" = none) (ha : SimA T X W [a, b] m) (hg : Gl X "min" := by rfl) (he : starEach [a, b] X.env = (false, eval a X.env) :: starEach [b] X.env := by rfl) (hpl : (backTo pos (starEach [b] X.env)).any (·.1) = false := by rfl) : SimE T X W (.Call (.Name "min" p) [a, b] [] pos) (mAll kMin2 m) :=
  sim_callB (call_min2 hc) s_kI2 hg hm boot_min ha (he := he) (hpl := hpl)
/-! list(x): data, or to be changed; tuple(x) -/
def kList (vs : List Vl) (h : Hs) : Rs Vl := match vs with
  | [v] => match seqV v h with
    | some ds => ret (.p (.lst ds)) h
    | none => none
  | _ => none
def kListT (vs : List Vl) (h : Hs) : Rs Vl := match vs with
  | [v] => match seqV v h with
    | some ds => ret (.ref h.length) (h ++ [.lst ds])
    | none => none
  | _ => none
theorem s_list : OpN T X.K kList (fun xs H Q => ∃ p ys, xs = [.ref p] ∧ (SqL X.K H p ys ∨ SqT X.K H p ys) ∧ ∀ l, H l = none → Q (.ref l) (upd H l (.lst ys))) := by
  intro M H h vs xs Er Q hr r p
  unfold kList at p
  split at p
  · split at p
    · rename_i ds q
      cases r with
      | cons r1 r =>
        cases r
        obtain ⟨a, ys, rfl, hs, ra⟩ := r1.seqV hr q
        exact ⟨a, ys, rfl, hs, fun l hl => p.ret (.fresh hl) (hr.fresh hl) (new_lst hr hl ra)⟩
    · exact p.elim
  · exact p.elim
theorem s_listT : OpN T X.K kListT (fun xs H Q => ∃ p ys, xs = [.ref p] ∧ (SqL X.K H p ys ∨ SqT X.K H p ys) ∧ ∀ l, H l = none → Q (.ref l) (upd H l (.lst ys))) := by
  intro M H h vs xs Er Q hr r p
  unfold kListT at p
  split at p
  · split at p
    · rename_i ds q
      cases r with
      | cons r1 r =>
        cases r
        obtain ⟨a, ys, rfl, hs, ra⟩ := r1.seqV hr q
        exact ⟨a, ys, rfl, hs, fun l hl => p.ret (.track hl) (trk_lst hr hl ra) (.ref (hr.newest l))⟩
    · exact p.elim
  · exact p.elim
theorem sim_list (hm : X.mg "list" = none) (ha : SimA T X W [e] m) (hg : Gl X "list" := by rfl) (he : starEach [e] X.env = (false, eval e X.env) :: starEach [] X.env := by rfl) : SimE T X W (.Call (.Name "list" p) [e] [] pos) (mAll kList m) :=
  sim_callTy call_list_of s_list hg hm boot_list ha (he := he) (hpl := rfl)
theorem sim_listT (hm : X.mg "list" = none) (ha : SimA T X W [e] m) (hg : Gl X "list" := by rfl) (he : starEach [e] X.env = (false, eval e X.env) :: starEach [] X.env := by rfl) : SimE T X W (.Call (.Name "list" p) [e] [] pos) (mAll kListT m) :=
  sim_callTy call_list_of s_listT hg hm boot_list ha (he := he) (hpl := rfl)
def lstV (v : Vl) (h : Hs) : Option (List P) := match v with
  | .p (.lst ds) => some ds
  | .p (.scr ds) => some ds
  | .ref n => match h[n]? with
    | some (.lst ds) => some ds
    | _ => none
  | _ => none
theorem RV.lstV {M : Trk} {H : Hp} {h : Hs} {v : Vl} {x : V} {ds : List P} (hr : HR T X.K M H h) (r : RV T X.K M H v x) (e : EV.lstV v h = some ds) : ∃ a xs, x = .ref a ∧ SqL X.K H a xs ∧ RpA T X.K M H ds xs := by
  unfold EV.lstV at e
  split at e
  · cases e
    cases r with | p r => cases r with | lst a b c => exact ⟨_, _, rfl, .of a, c⟩
  · cases e
    cases r with | p r => cases r with | scr a b => exact ⟨_, _, rfl, a.sqL, b⟩
  · cases r with
    | ref ea =>
      obtain ⟨q, hq, c⟩ := hr.got ea
      rw [hq] at e
      cases c with
      | lst a b => cases e; exact ⟨_, _, rfl, .of a, b⟩
      | ins _ _ _ => cases e
  · cases e
def kTuple (vs : List Vl) (h : Hs) : Rs Vl := match vs with
  | [.p (.tup ds)] => ret (.p (.tup ds)) h
  | [v] => match lstV v h with
    | some ds => ret (.p (.tup ds)) h
    | none => none
  | _ => none
theorem s_tuple : OpN T X.K kTuple (fun xs H Q => ∃ p ys, xs = [.ref p] ∧ ((SqL X.K H p ys ∧ ∀ l, H l = none → Q (.ref l) (upd H l (.tup ys))) ∨ (SqT X.K H p ys ∧ Q (.ref p) H))) := by
  intro M H h vs xs Er Q hr r p
  unfold kTuple at p
  split at p
  · cases r with
    | cons r1 r =>
      cases r
      cases r1 with
      | p r1 =>
        cases r1 with
        | tup h1 h2 => exact ⟨_, _, rfl, .inr ⟨h1.sqT, p.ret .refl hr (.p (.tup h1 h2))⟩⟩
  · split at p
    · rename_i ds q
      cases r with
      | cons r1 r =>
        cases r
        obtain ⟨a, ys, rfl, hs, ra⟩ := r1.lstV hr q
        exact ⟨a, ys, rfl, .inl ⟨hs, fun l hl => p.ret (.fresh hl) (hr.fresh hl) (new_tup hr hl ra)⟩⟩
    · exact p.elim
  · exact p.elim
theorem sim_tuple (hm : X.mg "tuple" = none) (ha : SimA T X W [e] m) (hg : Gl X "tuple" := by rfl) (he : starEach [e] X.env = (false, eval e X.env) :: starEach [] X.env := by rfl) : SimE T X W (.Call (.Name "tuple" p) [e] [] pos) (mAll kTuple m) :=
  sim_callTy call_tuple_of s_tuple hg hm boot_tuple ha (he := he) (hpl := rfl)
end

/-! ### while -/
def whileS (c : MT) (b : MS) : Nat → MS
  | 0, _, _ => none
  | n + 1, S, h => bndS (c S h) S fun k h1 => if k = true then match b S h1 with
      | some (.ok .nx, S2, h2) => whileS c b n S2 h2
      | some (.ok .ct, S2, h2) => whileS c b n S2 h2
      | some (.ok .bk, S2, h2) => some (.ok .nx, S2, h2)
      | r => r
    else some (.ok .nx, S, h1)
theorem sim_while (n : Nat) {c : Expr} {body : List Stmt} {mc : MT} {b : MS} {pos : Pos} (hp : PassesOwn (model X.prog X.w) X.A X.env X.xe) (hc : SimT T X W c mc) (hb : SimSs T X W body b) : SimS T X W (.While c body [] pos) (whileS mc b n) := by
  refine PS.weak (ps_while hp hc hb) fun D σ H ⟨S, M, h, sr, hr, p⟩ => ?_
  refine ⟨fun m σ' H' => ∃ S' M' h', SR T X.K M' H' S' σ' ∧ HR T X.K M' H' h' ∧ postS T X.K W M' H' D (whileS mc b m S' h'), ⟨n, S, M, h, sr, hr, p⟩, ?_⟩
  rintro m σ1 H1 ⟨S1, M1, h1, sr1, hr1, p1⟩
  cases m with
  | zero => exact p1.elim
  | succ m =>
    simp only [whileS] at p1
    refine ⟨S1, M1, h1, sr1, hr1, p1.bnd sr1 fun k h2 M2 H2 x e2 sr2 hr2 r2 p2 => ?_⟩
    cases (r2 : k = x)
    cases k with
    | false => exact p2 M2 H2 σ1 .refl hr2 sr2
    | true =>
      simp only [if_true] at p2
      refine ⟨fun σ' H' => ∃ S' M' h', SR T X.K M' H' S' σ' ∧ HR T X.K M' H' h' ∧ postS T X.K W M' H' D (whileS mc b m S' h'), fun σ' H' hN => ⟨m, Nat.lt_succ_self m, hN⟩, S1, M2, h2, sr2, hr2, ?_⟩
      match eb : b S1 h2, p2 with
      | some (.error c, S4, h4), p3 => exact p3
      | some (.ok .nx, S4, h4), p3 => exact fun M' H4 σ' a1 a2 a3 => ⟨S4, M', h4, a3, a2, postS.ext p3 a1⟩
      | some (.ok .ct, S4, h4), p3 => exact fun M' H4 σ' a1 a2 a3 => ⟨S4, M', h4, a3, a2, postS.ext p3 a1⟩
      | some (.ok .bk, S4, h4), p3 => exact p3
      | some (.ok (.rt v), S4, h4), p3 => exact p3
      | none, p3 => exact p3.elim
/-! ### raise X('..') -/
def sRaise (c : Nat) : MS := fun S h => some (.error ⟨c, []⟩, S, h)
theorem sim_raise (c : Nat) {e : Expr} {pos : Pos} (hc : X.calm = true) (tk : Takes X W) (he : PMk X e (fun _ H Q => Q (T.exc c) none H)) : SimS T X W (.Raise (some e) none pos) (sRaise c) :=
  PS.weak (ps_raise hc tk he) fun D σ H ⟨S, M, h, sr, hr, p⟩ => (p M H σ .refl hr sr).1 rfl
end
end EV
end T8
section T9
set_option Elab.async false
set_option linter.all false
set_option maxRecDepth 100000
namespace EV
open PySem PySem.Spec PyProof.Rows L2

section
variable {T : Tb} {X : Cx} {W : WX}
/-! ### isinstance(x, T), T a built-in type -/
def tyV' (v : Vl) (h : Hs) : Option String := match v with
  | .p .non => some "NoneType"
  | .p (.bl _) => some "bool"
  | .p (.int _) => some "int"
  | .p (.str _) => some "str"
  | .p (.tup _) => some "tuple"
  | .p (.lst _) => some "list"
  | .p (.dct _ _) => some "dict"
  | .ref n => match h[n]? with
    | some (.lst _) => some "list"
    | _ => none
  | _ => none
theorem RV.ty {M : Trk} {H : Hp} {h : Hs} {v : Vl} {x : V} {t : String} (hr : HR T X.K M H h) (r : RV T X.K M H v x) (e : tyV' v h = some t) : TyX X.K H x (.type t) := by
  unfold tyV' at e
  split at e
  · cases e; cases r with | p r => cases r; exact .base .non
  · cases e; cases r with | p r => cases r; exact .base (.bl _)
  · cases e; cases r with | p r => cases r; exact .base (.int _)
  · cases e; cases r with | p r => cases r; exact .base (.str _)
  · cases e
    cases r with
    | p r =>
      cases r with
      | tup a b => exact .base (.tup a.1)
  · cases e; cases r with | p r => cases r with | lst a b c => exact .base (.lst a)
  · cases e; cases r with | p r => cases r with | dct a b c d => exact .base (.dT a)
  · cases r with
    | ref ea =>
      obtain ⟨q, hq, c⟩ := hr.got ea
      rw [hq] at e
      cases c with
      | lst a b => cases e; exact .base (.lst a)
      | ins _ _ _ => cases e
  · cases e
def fIsi (u : String) (v : Vl) (h : Hs) : Rs Vl := match tyV' v h with
  | some t => match kitB t u with
    | some b => pB b h
    | none => none
  | none => none
theorem sim_isi {e : Expr} {m : ME} {ty : Str} {tn : String} {p p2 pos : Pos} (hm : X.mg "isinstance" = none) (hmt : X.mg ty = none) (hv : bootBuiltins ty = some (.type tn)) (ha : SimE T X W e m) (hg : Gl X "isinstance" := by rfl) (hg2 : Gl X ty := by rfl)
    (hn : ty ≠ "__name__" := by decide) (hdb : (ty == ("__debug__" : Str)) = false := by decide)
    (he : starEach [e, .Name ty p2] X.env = (false, eval e X.env) :: starEach [.Name ty p2] X.env := by rfl) (he2 : starEach [.Name ty p2] X.env = (false, eval (.Name ty p2) X.env) :: starEach [] X.env := by rfl) (hpl : (backTo pos (starEach [.Name ty p2] X.env)).any (·.1) = false := by rfl) :
    SimE T X W (.Call (.Name "isinstance" p) [e, .Name ty p2] [] pos) (m1 (fIsi tn) m) := by
  have hp : PA X [e, .Name ty p2] (tCons (tr T X.K W m) (tCons (tC (.ty tn)) tNil)) := pa_cons ha (pa_cons (pe_bltn hg2 hmt hv rfl hn hdb) pa_nil he2) he
  refine PE.weak (pe_callB call_isi hg hm boot_isinstance hp (he := he) (hpl := hpl)) fun σ H Q ⟨S, M, h, sr, hr, p⟩ => tr_then sr hr p fun v h1 M1 H1 x e1 sr1 hr1 r1 p1 => ?_
  unfold fIsi at p1
  split at p1
  · rename_i t ht
    split at p1
    · rename_i b hb
      exact ⟨x, .ty tn, .type t, .type tn, b, rfl, .ty tn, r1.ty hr1 ht, kit_ty hb, p1.ret .refl hr1 (.p (.bl _))⟩
    · exact p1.elim
  · exact p1.elim

/-! ### all, any of a list of truth values; sum of ints -/
def bls : List P → Option (List Bool)
  | [] => some []
  | .bl b :: ds => match bls ds with
    | some l => some (b :: l)
    | none => none
  | _ :: _ => none
def nums : List P → Option (List Int)
  | [] => some []
  | .int b :: ds => match nums ds with
    | some l => some (b :: l)
    | none => none
  | _ :: _ => none
theorem RpA.bls {K : PySem.W.Frag} {M : Trk} {H : Hp} : ∀ {ds : List P} {xs : List V} {l : List Bool}, RpA T K M H ds xs → EV.bls ds = some l → xs = l.map V.bl
  | _, _, _, .nil, e => by simp only [EV.bls, Option.some.injEq] at e; subst e; rfl
  | _, _, _, .cons (d := d) (ds := ds) hd r, e => by
    cases hd with
    | bl b =>
      simp only [EV.bls] at e
      cases q : EV.bls ds with
      | none => rw [q] at e; cases e
      | some l' => rw [q] at e; cases e; rw [RpA.bls r q]; rfl
    | _ => simp [EV.bls] at e
theorem RpA.nums {K : PySem.W.Frag} {M : Trk} {H : Hp} : ∀ {ds : List P} {xs : List V} {l : List Int}, RpA T K M H ds xs → EV.nums ds = some l → xs = l.map V.int
  | _, _, _, .nil, e => by simp only [EV.nums, Option.some.injEq] at e; subst e; rfl
  | _, _, _, .cons (d := d) (ds := ds) hd r, e => by
    cases hd with
    | int b =>
      simp only [EV.nums] at e
      cases q : EV.nums ds with
      | none => rw [q] at e; cases e
      | some l' => rw [q] at e; cases e; rw [RpA.nums r q]; rfl
    | _ => simp [EV.nums] at e
def kAll (vs : List Vl) (h : Hs) : Rs Vl := match vs with
  | [v] => match lstV v h with
    | some ds => match bls ds with
      | some l => pB (l.all id) h
      | none => none
    | none => none
  | _ => none
def kAny (vs : List Vl) (h : Hs) : Rs Vl := match vs with
  | [v] => match lstV v h with
    | some ds => match bls ds with
      | some l => pB (l.any id) h
      | none => none
    | none => none
  | _ => none
def kSumL (vs : List Vl) (h : Hs) : Rs Vl := match vs with
  | [v] => match lstV v h with
    | some ds => match nums ds with
      | some l => pI l.sum h
      | none => none
    | none => none
  | _ => none
theorem s_all : OpN T X.K kAll (rAll X.K) := by
  intro M H h vs xs Er Q hr r p
  unfold kAll at p
  split at p
  · split at p
    · rename_i ds q
      split at p
      · rename_i l ql
        cases r with
        | cons r1 r =>
          cases r
          obtain ⟨a, ys, rfl, hs, ra⟩ := r1.lstV hr q
          rw [ra.bls ql] at hs
          exact ⟨a, l, rfl, hs, p.ret .refl hr (.p (.bl _))⟩
      · exact p.elim
    · exact p.elim
  · exact p.elim
theorem s_any : OpN T X.K kAny (rAny X.K) := by
  intro M H h vs xs Er Q hr r p
  unfold kAny at p
  split at p
  · split at p
    · rename_i ds q
      split at p
      · rename_i l ql
        cases r with
        | cons r1 r =>
          cases r
          obtain ⟨a, ys, rfl, hs, ra⟩ := r1.lstV hr q
          rw [ra.bls ql] at hs
          exact ⟨a, l, rfl, hs, p.ret .refl hr (.p (.bl _))⟩
      · exact p.elim
    · exact p.elim
  · exact p.elim
theorem s_sumL : OpN T X.K kSumL (rSum X.K) := by
  intro M H h vs xs Er Q hr r p
  unfold kSumL at p
  split at p
  · split at p
    · rename_i ds q
      split at p
      · rename_i l ql
        cases r with
        | cons r1 r =>
          cases r
          obtain ⟨a, ys, rfl, hs, ra⟩ := r1.lstV hr q
          rw [ra.nums ql] at hs
          exact ⟨a, l, rfl, hs, p.ret .refl hr (.p (.int _))⟩
      · exact p.elim
    · exact p.elim
  · exact p.elim
/-- greatest, least of ints -/
def maxI : List Int → Option Int
  | [] => none
  | x :: l => some (l.foldl max x)
def minI : List Int → Option Int
  | [] => none
  | x :: l => some (l.foldl min x)
theorem foldl_max (l : List Int) : ∀ x : Int, x ≤ l.foldl max x ∧ (∀ y ∈ l, y ≤ l.foldl max x) ∧ (l.foldl max x = x ∨ l.foldl max x ∈ l) := by
  induction l with
  | nil => intro x; exact ⟨Int.le_refl _, fun _ h => (by cases h), .inl rfl⟩
  | cons a l ih =>
    intro x
    obtain ⟨h1, h2, h3⟩ := ih (max x a)
    simp only [List.foldl_cons]
    refine ⟨by omega, fun y hy => ?_, ?_⟩
    · rcases List.mem_cons.mp hy with e | hy
      · subst e; omega
      · exact h2 y hy
    · rcases h3 with h3 | h3
      · by_cases hm : x ≤ a
        · exact .inr (List.mem_cons.mpr (.inl (by omega)))
        · exact .inl (by omega)
      · exact .inr (List.mem_cons_of_mem _ h3)
theorem foldl_min (l : List Int) : ∀ x : Int, l.foldl min x ≤ x ∧ (∀ y ∈ l, l.foldl min x ≤ y) ∧ (l.foldl min x = x ∨ l.foldl min x ∈ l) := by
  induction l with
  | nil => intro x; exact ⟨Int.le_refl _, fun _ h => (by cases h), .inl rfl⟩
  | cons a l ih =>
    intro x
    obtain ⟨h1, h2, h3⟩ := ih (min x a)
    simp only [List.foldl_cons]
    refine ⟨by omega, fun y hy => ?_, ?_⟩
    · rcases List.mem_cons.mp hy with e | hy
      · subst e; omega
      · exact h2 y hy
    · rcases h3 with h3 | h3
      · by_cases hm : a ≤ x
        · exact .inr (List.mem_cons.mpr (.inl (by omega)))
        · exact .inl (by omega)
      · exact .inr (List.mem_cons_of_mem _ h3)
def kMaxL (vs : List Vl) (h : Hs) : Rs Vl := match vs with
  | [v] => match lstV v h with
    | some ds => match nums ds with
      | some l => match maxI l with
        | some m => pI m h
        | none => none
      | none => none
    | none => none
  | _ => none
def kMinL (vs : List Vl) (h : Hs) : Rs Vl := match vs with
  | [v] => match lstV v h with
    | some ds => match nums ds with
      | some l => match minI l with
        | some m => pI m h
        | none => none
      | none => none
    | none => none
  | _ => none
theorem s_maxL : OpN T X.K kMaxL (rMax X.K) := by
  intro M H h vs xs Er Q hr r p
  unfold kMaxL at p
  split at p
  · split at p
    · rename_i ds q
      split at p
      · rename_i l ql
        split at p
        · rename_i g qg
          cases r with
          | cons r1 r =>
            cases r
            obtain ⟨a, ys, rfl, hs, ra⟩ := r1.lstV hr q
            rw [ra.nums ql] at hs
            cases l with
            | nil => cases qg
            | cons x l =>
              cases qg
              refine ⟨a, x :: l, rfl, hs, by simp, fun m hm hy => ?_⟩
              obtain ⟨f1, f2, f3⟩ := foldl_max l x
              have e : m = l.foldl max x := by
                have u1 : l.foldl max x ≤ m := by
                  rcases f3 with f3 | f3
                  · rw [f3]; exact hy x (by simp)
                  · exact hy _ (List.mem_cons_of_mem _ f3)
                have u2 : m ≤ l.foldl max x := by
                  rcases List.mem_cons.mp hm with e | hm
                  · rw [e]; exact f1
                  · exact f2 m hm
                omega
              rw [e]
              exact p.ret .refl hr (.p (.int _))
        · exact p.elim
      · exact p.elim
    · exact p.elim
  · exact p.elim
theorem s_minL : OpN T X.K kMinL (rMin X.K) := by
  intro M H h vs xs Er Q hr r p
  unfold kMinL at p
  split at p
  · split at p
    · rename_i ds q
      split at p
      · rename_i l ql
        split at p
        · rename_i g qg
          cases r with
          | cons r1 r =>
            cases r
            obtain ⟨a, ys, rfl, hs, ra⟩ := r1.lstV hr q
            rw [ra.nums ql] at hs
            cases l with
            | nil => cases qg
            | cons x l =>
              cases qg
              refine ⟨a, x :: l, rfl, hs, by simp, fun m hm hy => ?_⟩
              obtain ⟨f1, f2, f3⟩ := foldl_min l x
              have e : m = l.foldl min x := by
                have u1 : m ≤ l.foldl min x := by
                  rcases f3 with f3 | f3
                  · rw [f3]; exact hy x (by simp)
                  · exact hy _ (List.mem_cons_of_mem _ f3)
                have u2 : l.foldl min x ≤ m := by
                  rcases List.mem_cons.mp hm with e | hm
                  · rw [e]; exact f1
                  · exact f2 m hm
                omega
              rw [e]
              exact p.ret .refl hr (.p (.int _))
        · exact p.elim
      · exact p.elim
    · exact p.elim
  · exact p.elim
section
variable {e : Expr} {m : MA} {p pos : Pos}
theorem sim_all (hc : X.calm = true) (hm : X.mg "all" = none) (ha : SimA T X W [e] m) (hg : Gl X "all" := by rfl) (he : starEach [e] X.env = (false, eval e X.env) :: starEach [] X.env := by rfl) : SimE T X W (.Call (.Name "all" p) [e] [] pos) (mAll kAll m) := sim_callB (cr_all hc) s_all hg hm boot_all ha (he := he) (hpl := rfl)
theorem sim_any (hc : X.calm = true) (hm : X.mg "any" = none) (ha : SimA T X W [e] m) (hg : Gl X "any" := by rfl) (he : starEach [e] X.env = (false, eval e X.env) :: starEach [] X.env := by rfl) : SimE T X W (.Call (.Name "any" p) [e] [] pos) (mAll kAny m) := sim_callB (cr_any hc) s_any hg hm boot_any ha (he := he) (hpl := rfl)
theorem sim_sumL (hc : X.calm = true) (hm : X.mg "sum" = none) (ha : SimA T X W [e] m) (hg : Gl X "sum" := by rfl) (he : starEach [e] X.env = (false, eval e X.env) :: starEach [] X.env := by rfl) : SimE T X W (.Call (.Name "sum" p) [e] [] pos) (mAll kSumL m) := sim_callB (cr_sum hc) s_sumL hg hm boot_sum ha (he := he) (hpl := rfl)
theorem sim_maxL (hc : X.calm = true) (hm : X.mg "max" = none) (ha : SimA T X W [e] m) (hg : Gl X "max" := by rfl) (he : starEach [e] X.env = (false, eval e X.env) :: starEach [] X.env := by rfl) : SimE T X W (.Call (.Name "max" p) [e] [] pos) (mAll kMaxL m) := sim_callB (cr_max hc) s_maxL hg hm boot_max ha (he := he) (hpl := rfl)
theorem sim_minL (hc : X.calm = true) (hm : X.mg "min" = none) (ha : SimA T X W [e] m) (hg : Gl X "min" := by rfl) (he : starEach [e] X.env = (false, eval e X.env) :: starEach [] X.env := by rfl) : SimE T X W (.Call (.Name "min" p) [e] [] pos) (mAll kMinL m) := sim_callB (cr_min hc) s_minL hg hm boot_min ha (he := he) (hpl := rfl)
/-! int(truth value), int(int), str(int) -/
def kInt (vs : List Vl) (h : Hs) : Rs Vl := match vs with
  | [.p (.int i)] => pI i h
  | [.p (.bl k)] => pI (if k then 1 else 0) h
  | _ => none
theorem s_int : OpN T X.K kInt (fun xs H Q => (∃ i, xs = [.int i] ∧ Q (.int i) H) ∨ ∃ k, xs = [.bl k] ∧ Q (.int (if k then 1 else 0)) H) := by
  intro M H h vs xs Er Q hr r p
  unfold kInt at p
  split at p
  · cases r with
    | cons r1 r =>
      cases r
      cases r1 with
      | p r1 => cases r1; exact .inl ⟨_, rfl, p.ret .refl hr (.p (.int _))⟩
  · cases r with
    | cons r1 r =>
      cases r
      cases r1 with
      | p r1 => cases r1; exact .inr ⟨_, rfl, p.ret .refl hr (.p (.int _))⟩
  · exact p.elim
theorem sim_int1 (hm : X.mg "int" = none) (ha : SimA T X W [e] m) (hg : Gl X "int" := by rfl) (he : starEach [e] X.env = (false, eval e X.env) :: starEach [] X.env := by rfl) : SimE T X W (.Call (.Name "int" p) [e] [] pos) (mAll kInt m) :=
  sim_callTy call_int1 s_int hg hm (PyProof.Rows.boot_int) ha (he := he) (hpl := rfl)
def kStr (vs : List Vl) (h : Hs) : Rs Vl := match vs with
  | [.p (.int i)] => if i.natAbs.log2 < 1920 then ret (.p (.str (toString i))) h else none
  | _ => none
theorem s_str : OpN T X.K kStr (fun xs H Q => ∃ i, xs = [.int i] ∧ i.natAbs.log2 < 1920 ∧ Q (.str (toString i)) H) := by
  intro M H h vs xs Er Q hr r p
  unfold kStr at p
  split at p
  · split at p
    · rename_i hz
      cases r with
      | cons r1 r =>
        cases r
        cases r1 with
        | p r1 => cases r1; exact ⟨_, rfl, hz, p.ret .refl hr (.p (.str _))⟩
    · exact p.elim
  · exact p.elim
theorem sim_str1 (hm : X.mg "str" = none) (ha : SimA T X W [e] m) (hg : Gl X "str" := by rfl) (he : starEach [e] X.env = (false, eval e X.env) :: starEach [] X.env := by rfl) : SimE T X W (.Call (.Name "str" p) [e] [] pos) (mAll kStr m) :=
  sim_callTy call_str_int s_str hg hm (PyProof.Rows.boot_str) ha (he := he) (hpl := rfl)
end
/-! ### t * k, xs * k -/
def fRepT (v w : Vl) (h : Hs) : Rs Vl := match v, w with
  | .p (.tup ds), .p (.int k) => if ds ≠ [] ∧ 2 ≤ k ∧ k ≤ 1000 ∧ ds.length ≤ 1000 then ret (.p (.tup (List.replicate k.toNat ds).flatten)) h else none
  | _, _ => none
theorem RpA.rep {K : PySem.W.Frag} {M : Trk} {H : Hp} {ds : List P} {xs : List V} (r : RpA T K M H ds xs) : ∀ n : Nat, RpA T K M H (List.replicate n ds).flatten (List.replicate n xs).flatten
  | 0 => .nil
  | n + 1 => by
    rw [List.replicate_succ, List.replicate_succ, List.flatten_cons, List.flatten_cons]
    exact r.append (RpA.rep r n)
theorem RpA.ne {K : PySem.W.Frag} {M : Trk} {H : Hp} {ds : List P} {xs : List V} (r : RpA T K M H ds xs) (h : ds ≠ []) : xs ≠ [] := fun e => by
  subst e
  cases r
  exact h rfl
theorem s_repT : Op2 T X.K fRepT (rRepT X.K) := by
  intro M H h v w x y Er Q hr rx ry p
  unfold fRepT at p
  split at p
  · split at p
    · rename_i hz
      cases rx with
      | p rx =>
        cases rx with
        | tup a ra =>
          cases ry with
          | p ry =>
            cases ry
            exact ⟨_, _, _, rfl, rfl, a.sqT, ra.ne hz.1, hz.2.1, hz.2.2.1, by rw [← ra.length]; exact hz.2.2.2, fun q hq => p.ret (.fresh hq) (hr.fresh hq) (new_tup hr hq (ra.rep _))⟩
    · exact p.elim
  · exact p.elim
def fRepL (v w : Vl) (h : Hs) : Rs Vl := match v, w with
  | .p (.lst ds), .p (.int k) => if -(2 ^ 63) ≤ k ∧ k < 2 ^ 63 ∧ ds.length * k.toNat ≤ 16777216 then ret (.p (.lst (List.replicate k.toNat ds).flatten)) h else none
  | _, _ => none
theorem s_repL : Op2 T X.K fRepL rRep := by
  intro M H h v w x y Er Q hr rx ry p
  unfold fRepL at p
  split at p
  · split at p
    · rename_i hz
      cases rx with
      | p rx =>
        cases rx with
        | lst a n ra =>
          cases ry with
          | p ry =>
            cases ry
            exact ⟨_, _, _, rfl, rfl, a, hz.1, hz.2.1, by rw [← ra.length]; exact le_line hz.2.2, fun q hq => p.ret (.fresh hq) (hr.fresh hq) (new_lst hr hq (ra.rep _))⟩
    · exact p.elim
  · exact p.elim
section
variable {ea eb : Expr} {a b : ME} {pos : Pos}
theorem sim_repT (ha : SimE T X W ea a) (hb : SimE T X W eb b) : SimE T X W (.BinOp ea .Mult eb pos) (m2 fRepT a b) := sim_op op_repT s_repT ha hb
theorem sim_repL (ha : SimE T X W ea a) (hb : SimE T X W eb b) : SimE T X W (.BinOp ea .Mult eb pos) (m2 fRepL a b) := sim_op op_rep s_repL ha hb
end
/-! ### a module's constant that is an int; xs[::-1]; list(range(..)) -/
theorem sim_glob {x : Str} {i : Int} {pos : Pos} (hm : ∃ t, X.mg x = some (.int i t)) (hg : Gl X x := by rfl) (hd : (x == ("__debug__" : Str)) = false := by decide) : SimE T X W (.Name x pos) (mC (.int i)) := by
  obtain ⟨t, hm⟩ := hm
  exact PE.weak (pe_glob (v := .int i) hg hm ⟨t, rfl⟩ hd) fun σ H Q ⟨_, _, _, _, hr, p⟩ => p.ret .refl hr (.p (.int i))
def fRev (v : Vl) (h : Hs) : Rs Vl := match lstV v h with
  | some ds => ret (.p (.lst ds.reverse)) h
  | none => none
theorem sim_rev {e : Expr} {m : ME} {k : Nat} {p1 p2 p3 pos : Pos} (he : SimE T X W e m) : SimE T X W (.Subscript e (.Slice none none (some (.UnaryOp .USub (.Constant (.int 1) k p1) p2)) p3) pos) (m1 fRev m) := by
  refine PE.weak (pe_revL he) fun σ H Q ⟨S, M, h, sr, hr, p⟩ => tr_then sr hr p fun v h1 M1 H1 x e1 sr1 hr1 r1 p1 => ?_
  unfold fRev at p1
  split at p1
  · rename_i ds q
    obtain ⟨a, ys, rfl, hs, ra⟩ := r1.lstV hr1 q
    exact ⟨a, ys, rfl, hs, fun q hq => p1.ret (.fresh hq) (hr1.fresh hq) (new_lst hr1 hq ra.reverse)⟩
  · exact p1.elim
def kRange (vs : List Vl) (h : Hs) : Rs Vl := match vs with
  | [.p (.int j)] => if 0 ≤ j ∧ j ≤ 16777216 then ret (.p (.lst (intsP 0 j.toNat))) h else none
  | [.p (.int i), .p (.int j)] => if 0 ≤ i ∧ i ≤ 16777216 ∧ 0 ≤ j ∧ j ≤ 16777216 then ret (.p (.lst (intsP i (j - i).toNat))) h else none
  | _ => none
theorem rg_rp {K : PySem.W.Frag} {M : Trk} {H : Hp} (a b : Int) : RpA T K M H (intsP a (b - a).toNat) (rgV a b) := by
  unfold intsP rgV
  have : ∀ l : List Nat, RpA T K M H (l.map fun (k : Nat) => P.int (a + k)) (l.map fun i => V.int (a + (i : Nat))) := fun l => by
    induction l with
    | nil => exact .nil
    | cons x l ih => exact .cons (.int _) ih
  exact this _
section
variable {a b : Expr} {m m' : ME} {p q pos qos : Pos}
theorem sim_listR1 (hc : X.calm = true) (hm : X.mg "list" = none) (hm2 : X.mg "range" = none) (ha : SimE T X W a m) (hg : Gl X "list" := by rfl) (hg2 : Gl X "range" := by rfl) (na : starEach [a] X.env = (false, eval a X.env) :: starEach [] X.env := by rfl)
    (nb : starEach [.Call (.Name "range" q) [a] [] qos] X.env = (false, eval (.Call (.Name "range" q) [a] [] qos) X.env) :: starEach [] X.env := by rfl) : SimE T X W (.Call (.Name "list" p) [.Call (.Name "range" q) [a] [] qos] [] pos) (m1 (fun v h => kRange [v] h) m) := by
  refine PE.weak (pe_listRg hc hg hm (prg_1 hg2 hm2 ha na) nb) fun σ H Q ⟨S, M, h, sr, hr, p⟩ => tr_then sr hr p fun v h1 M1 H1 x e1 sr1 hr1 r1 p1 => ?_
  unfold kRange at p1
  split at p1
  · rename_i j e
    cases e
    split at p1
    · rename_i hz
      cases r1 with
      | p r1 =>
        cases r1
        refine ⟨_, rfl, .of_le (by omega) hz.2 (by omega) hz.1, fun l hl => ?_⟩
        have e : intsP 0 j.toNat = intsP 0 (j - 0).toNat := by simp
        rw [e] at p1
        exact p1.ret (.fresh hl) (hr1.fresh hl) (new_lst hr1 hl (rg_rp 0 j))
    · exact p1.elim
  · rename_i e
    cases e
  · exact p1.elim
theorem sim_listR2 (hc : X.calm = true) (hm : X.mg "list" = none) (hm2 : X.mg "range" = none) (ha : SimE T X W a m) (hb : SimE T X W b m') (hg : Gl X "list" := by rfl) (hg2 : Gl X "range" := by rfl) (na : starEach [a, b] X.env = (false, eval a X.env) :: starEach [b] X.env := by rfl) (na2 : starEach [b] X.env = (false, eval b X.env) :: starEach [] X.env := by rfl) (hp : (backTo qos (starEach [b] X.env)).any (·.1) = false := by rfl)
    (nb : starEach [.Call (.Name "range" q) [a, b] [] qos] X.env = (false, eval (.Call (.Name "range" q) [a, b] [] qos) X.env) :: starEach [] X.env := by rfl) : SimE T X W (.Call (.Name "list" p) [.Call (.Name "range" q) [a, b] [] qos] [] pos) (m2 (fun v w h => kRange [v, w] h) m m') := by
  refine PE.weak (pe_listRg hc hg hm (prg_2 hg2 hm2 ha hb na na2 hp) nb) fun σ H Q ⟨S, M, h, sr, hr, p⟩ => tr_then sr hr p fun v h1 M1 H1 x e1 sr1 hr1 r1 p1 => tr_then sr1 hr1 p1 fun v2 h2 M2 H2 y e2 sr2 hr2 r2 p2 => ?_
  have p2 : post T X.K (RV T X.K) M2 H2 (erAt T W σ) Q (kRange [v, v2] h2) := p2
  unfold kRange at p2
  split at p2
  · rename_i e
    cases e
  · rename_i i j e
    cases e
    have p2 : post T X.K (RV T X.K) M2 H2 (erAt T W σ) Q (if 0 ≤ i ∧ i ≤ 16777216 ∧ 0 ≤ j ∧ j ≤ 16777216 then ret (.p (.lst (intsP i (j - i).toNat))) h2 else none) := p2
    split at p2
    · rename_i hz
      cases r1 with
      | p r1 =>
        cases r2 with
        | p r2 =>
          cases r1
          cases r2
          exact ⟨_, _, rfl, rfl, .of_le hz.1 hz.2.2.2 hz.2.1 hz.2.2.1, fun l hl => p2.ret (.fresh hl) (hr2.fresh hl) (new_lst hr2 hl (rg_rp i j))⟩
    · exact p2.elim
  · exact p2.elim
end
/-! ### a op b op' c -/
def m3 (f g : Vl → Vl → Hs → Rs Vl) (a b c : ME) : ME := fun S h => bnd (a S h) fun v h1 => bnd (b S h1) fun w h2 => bnd (f v w h2) fun z h3 => match z with
  | .p (.bl k) => if k = true then bnd (c S h3) fun u h4 => g w u h4 else ret (.p (.bl false)) h3
  | _ => none
theorem op2_post {f : Vl → Vl → Hs → Rs Vl} {r : R2} (hf : Op2 T X.K f r) {M : Trk} {H : Hp} {h : Hs} {v w : Vl} {x y : V} {Er : Exn → Hp → Prop} {Q : VK} {k : Vl → Hs → Rs Vl} {G : VK} (hr : HR T X.K M H h) (rx : RV T X.K M H v x) (ry : RV T X.K M H w y)
    (p : post T X.K (RV T X.K) M H Er Q (bnd (f v w h) k)) (g : ∀ u h1 M1 H1 z, Ext M H M1 H1 → HR T X.K M1 H1 h1 → RV T X.K M1 H1 u z → post T X.K (RV T X.K) M1 H1 Er Q (k u h1) → G z H1) : r x y H G :=
  hf M H h v w x y Er G hr rx ry (p.bnd g)
section
variable {op op' : CmpOp} {f g : Vl → Vl → Hs → Rs Vl} {r r' : R2} {ea eb ec : Expr} {a b c : ME} {pos : Pos} {k : Nat}
theorem tr_chain (hf : Op2 T X.K f r) (hg : Op2 T X.K g r') {σ : L2.St} {H : Hp} {Q : VK} (h : tr T X.K W (m3 f g a b c) σ H Q) : tChain r r' (tr T X.K W a) (tr T X.K W b) (tr T X.K W c) σ H Q := by
  obtain ⟨S, M, h, sr, hr, p⟩ := h
  refine tr_then sr hr p fun v h1 M1 H1 x e1 sr1 hr1 r1 p1 => tr_then sr1 hr1 p1 fun w h2 M2 H2 y e2 sr2 hr2 r2 p2 => ?_
  refine op2_post hf hr2 (r1.ext e2) r2 p2 fun u h3 M3 H3 z e3 hr3 r3 p3 => ?_
  split at p3
  · cases r3 with
    | p r3 =>
      cases r3
      rename_i kk
      refine ⟨kk, rfl, ?_⟩
      cases kk with
      | false => exact p3.ret .refl hr3 (.p (.bl _))
      | true =>
        simp only [if_true] at p3 ⊢
        exact tr_then (sr2.ext e3) hr3 p3 fun u h4 M4 H4 z e4 sr4 hr4 r4 p4 => hg M4 H4 h4 w u y z _ Q hr4 ((r2.ext e3).ext e4) r4 p4
  · exact p3.elim
theorem sim_chain (ho : OpR X (compareOp op) r) (ho' : OpR X (compareOp op') r') (hf : Op2 T X.K f r) (hg : Op2 T X.K g r') (ha : SimE T X W ea a) (hb : SimE T X W eb b) (hc : SimE T X W ec c) (hm : lastMarks [op, op'] [eb, ec] = false) : SimE T X W (.Compare ea [op, op'] [eb, ec] pos) (m3 f g a b c) :=
  PE.weak (pe_chain ho ho' ha hb hc hm) fun _ _ _ h => tr_chain hf hg h
theorem simT_chain (ho : OpR X (compareOp op) r) (ho' : OpR X (compareOp op') r') (hf : Op2 T X.K f r) (hg : Op2 T X.K g r') (ha : SimE T X W ea a) (hb : SimE T X W eb b) (hc : SimE T X W ec c) (hm : lastMarks [op, op'] [eb, ec] = false) : SimT T X W (.Compare ea [op, op'] [eb, ec] pos) (mT (m3 f g a b c)) :=
  PT.weak (pt_chain ho ho' ha hb hc hm) fun _ _ _ h => tr_chain hf hg (tr_bT h)
theorem sim_chain_le_le (ha : SimE T X W ea a) (hb : SimE T X W eb b) (hc : SimE T X W ec c) (hm : lastMarks [.LtE, .LtE] [eb, ec] = false := by with_unfolding_all rfl) : SimE T X W (.Compare ea [.LtE, .LtE] [eb, ec] pos) (m3 fLe fLe a b c) := sim_chain op_le op_le (s_I0 fun _ _ _ _ => .bl _) (s_I0 fun _ _ _ _ => .bl _) ha hb hc hm
theorem simT_chain_le_le (ha : SimE T X W ea a) (hb : SimE T X W eb b) (hc : SimE T X W ec c) (hm : lastMarks [.LtE, .LtE] [eb, ec] = false := by with_unfolding_all rfl) : SimT T X W (.Compare ea [.LtE, .LtE] [eb, ec] pos) (mT (m3 fLe fLe a b c)) := simT_chain op_le op_le (s_I0 fun _ _ _ _ => .bl _) (s_I0 fun _ _ _ _ => .bl _) ha hb hc hm
theorem sim_chain_eq_eq (hr : Room k X.A) (ha : SimE T X W ea a) (hb : SimE T X W eb b) (hc : SimE T X W ec c) (hm : lastMarks [.Eq, .Eq] [eb, ec] = false := by with_unfolding_all rfl) : SimE T X W (.Compare ea [.Eq, .Eq] [eb, ec] pos) (m3 (fEqD false) (fEqD false) a b c) := sim_chain (op_eqD hr.units) (op_eqD hr.units) s_eq s_eq ha hb hc hm
end
/-! ### sum of a tuple of ints -/
def rSumT (K : PySem.W.Frag) : List V → Hp → VK → Prop := fun vs H Q => ∃ (a : Addr) (ns : List Int), vs = [V.ref a] ∧ SqT K H a (ns.map V.int) ∧ Q (.int ns.sum) H
theorem cr_sumT (hc : X.calm = true) : CallR X (.builtin "sum") (rSumT X.K) := by
  rintro pins s σ H xs us Q I r ⟨a, ns, rfl, hs, q⟩
  rw [Vals.ref1 r]
  obtain ⟨its, rv, ht, hz⟩ := I.tuple hs
  have hi : IntsAre its ns := rv.ints
  obtain ⟨xs, hx⟩ := hi.allInts.items
  have hn : numsOf its.toArray.toList = ns := by rw [show its.toArray.toList = its from rfl, hi.numsOf]
  have ht' : s.heap.IsTuple a its.toArray := ht
  rw [hx] at ht' hn
  rw [nums_intItems] at hn
  refine PySem.W.ktm_sumG (I.ok.hd hc) ht' fun h' tk t' hk => ?_
  rw [preSum_eq, List.take_of_length_le (by simp), hn]
  exact ⟨.int ns.sum, H, I.kept hk, ⟨_, rfl⟩, q⟩
def kSum (vs : List Vl) (h : Hs) : Rs Vl := match vs with
  | [.p (.tup ds)] => match nums ds with
    | some l => pI l.sum h
    | none => none
  | vs => kSumL vs h
theorem s_sum : OpN T X.K kSum (fun xs H Q => rSumT X.K xs H Q ∨ rSum X.K xs H Q) := by
  intro M H h vs xs Er Q hr r p
  unfold kSum at p
  split at p
  · split at p
    · rename_i l ql
      cases r with
      | cons r1 r =>
        cases r
        cases r1 with
        | p r1 =>
          cases r1 with
          | tup ht ra =>
            have hs := ht.sqT (K := X.K)
            rw [ra.nums ql] at hs
            exact .inl ⟨_, l, rfl, hs, p.ret .refl hr (.p (.int _))⟩
    · exact p.elim
  · exact .inr (s_sumL M H h _ xs Er Q hr r p)
theorem sim_sum {e : Expr} {m : MA} {p pos : Pos} (hc : X.calm = true) (hm : X.mg "sum" = none) (ha : SimA T X W [e] m) (hg : Gl X "sum" := by rfl) (he : starEach [e] X.env = (false, eval e X.env) :: starEach [] X.env := by rfl) : SimE T X W (.Call (.Name "sum" p) [e] [] pos) (mAll kSum m) :=
  sim_callB ((cr_sumT hc).or (cr_sum hc)) s_sum hg hm boot_sum ha (he := he) (hpl := rfl)
end
end EV
end T9
section T10
set_option Elab.async false
set_option linter.all false
set_option maxRecDepth 100000
namespace EV
open PySem PySem.Spec PyProof.Rows L2

section
variable {T : Tb} {X : Cx} {W : WX}
/-! ### what is not followed -/
def sNo : MS := fun _ _ => none
theorem sim_no {st : Stmt} : SimS T X W st sNo := ⟨fun _ _ _ _ _ _ ⟨_, _, _, _, _, p⟩ => p.elim⟩
def mNo : ME := fun _ _ => none
theorem sim_noE {e : Expr} : SimE T X W e mNo := ⟨fun _ _ _ _ _ _ ⟨_, _, _, _, _, p⟩ => p.elim⟩
/-! ### classes -/
structure ClsF (T : Tb) (K : PySem.W.Frag) (c : Nat) : Prop where
  cl : Cls K (T.cls c)
  no : ∀ f ∈ T.nms c, NoAttr K (T.cls c) f
  nd : (T.nms c).Nodup
  ln : (T.nms c).length < 1000
def fldV (v : Vl) (h : Hs) : Option (Nat × List P) := match v with
  | .p (.ins c fs) => some (c, fs)
  | .ref n => match h[n]? with
    | some (.ins c fs) => some (c, fs)
    | _ => none
  | _ => none
theorem RV.fld {K : PySem.W.Frag} {M : Trk} {H : Hp} {h : Hs} {v : Vl} {x : V} {c : Nat} {fs : List P} (hr : HR T K M H h) (r : RV T K M H v x) (e : fldV v h = some (c, fs)) :
    ∃ a dx gs, x = .ref a ∧ H a = some (.ins (T.cls c) dx gs) ∧ gs.map (·.1) = (T.nms c).take fs.length ∧ RpA T K M H fs (gs.map (·.2)) := by
  unfold fldV at e
  split at e
  · cases e
    cases r with | p r => cases r with | ins z n q ra => exact ⟨_, _, _, rfl, z, q, ra⟩
  · cases r with
    | ref ea =>
      obtain ⟨q, hq, cc⟩ := hr.got ea
      rw [hq] at e
      cases cc with
      | ins z q ra => cases e; exact ⟨_, _, _, rfl, z, q, ra⟩
      | lst _ _ => cases e
  · cases e
theorem lookup_nth : ∀ {gs : List (Str × V)} {i : Nat} {f : Str} {v : V}, (gs.map (·.1)).Nodup → (gs.map (·.1))[i]? = some f → (gs.map (·.2))[i]? = some v → gs.lookup f = some v
  | [], i, _, _, _, e, _ => by simp at e
  | (g, y) :: gs, 0, f, v, _, e1, e2 => by
    simp at e1 e2
    subst e1 e2
    simp [List.lookup]
  | (g, y) :: gs, i + 1, f, v, nd, e1, e2 => by
    have nd' := List.nodup_cons.mp (show (g :: gs.map (·.1)).Nodup from nd)
    have e1' : (gs.map (·.1))[i]? = some f := by simpa using e1
    have e2' : (gs.map (·.2))[i]? = some v := by simpa using e2
    have ne : f ≠ g := fun z => nd'.1 (by rw [← z]; exact List.mem_of_getElem? e1')
    have hb : (f == g) = false := by simpa using ne
    simp only [List.lookup, hb]
    exact lookup_nth nd'.2 e1' e2'
theorem nodup_take {α : Type} {l : List α} (h : l.Nodup) (n : Nat) : (l.take n).Nodup := (List.take_sublist n l).nodup h
/-! ### o.f -/
def mFld (c i : Nat) (o : ME) : ME := fun S h => bnd (o S h) fun v h1 => match fldV v h1 with
  | some (c', fs) => if c' = c then match fs[i]? with
      | some d => ret (.p d) h1
      | none => none
    else none
  | none => none
theorem sim_fld (c i : Nat) {e : Expr} {f : Str} {m : ME} {pos : Pos} (Z : ClsF T X.K c) (hi : (T.nms c)[i]? = some f) (he : SimE T X W e m) (hb : attributeBase e f X.env (eval e X.env) = eval e X.env := by rfl) : SimE T X W (.Attribute e f pos) (mFld c i m) := by
  refine PE.weak (pe_fld he hb) fun σ H Q ⟨S, M, h, sr, hr, p⟩ => tr_then sr hr p fun v h1 M1 H1 x e1 sr1 hr1 r1 p1 => ?_
  split at p1
  · rename_i c' fs q
    split at p1
    · rename_i hc
      subst hc
      split at p1
      · rename_i d hd
        obtain ⟨a, dx, gs, rfl, z, nm, ra⟩ := r1.fld hr1 q
        obtain ⟨y, hy, ry⟩ := ra.get hd
        have hn : (gs.map (·.1))[i]? = some f := by
          rw [nm, List.getElem?_take_of_lt (List.getElem?_eq_some_iff.mp hd).1]; exact hi
        refine ⟨a, _, dx, gs, y, rfl, z, Z.cl, Z.no f (List.mem_of_getElem? hi), lookup_nth (by rw [nm]; exact nodup_take Z.nd _) hn hy, p1.ret .refl hr1 (.p ry)⟩
      · exact p1.elim
    · exact p1.elim
  · exact p1.elim
/-! ### o.f = e, o tracked: a new last field, or one that stands -/
def wFld (c i : Nat) (o v : Vl) (S : Sl) (h : Hs) : RS := match o, v with
  | .ref n, .p d => match h[n]? with
    | some (.ins c' fs) => if c' = c then (if i = fs.length then some (.ok .nx, S, h.set n (.ins c (fs ++ [d]))) else if i < fs.length then some (.ok .nx, S, h.set n (.ins c (fs.set i d))) else none) else none
    | _ => none
  | _, _ => none
def sFldS (c i : Nat) (mo m : ME) : MS := fun S h => bndS (m S h) S fun v h1 => bndS (mo S h1) S fun o h2 => wFld c i o v S h2
theorem putF_new {f : Str} {v : V} : ∀ {gs : List (Str × V)}, f ∉ gs.map (·.1) → putF f v gs = gs ++ [(f, v)]
  | [], _ => rfl
  | (g, y) :: gs, h => by
    have h' : f ≠ g ∧ f ∉ gs.map (·.1) := by simpa using h
    show (if g = f then _ else _) = _
    rw [if_neg (fun z => h'.1 z.symm), putF_new h'.2]; rfl
theorem putF_at {f : Str} {v : V} : ∀ {gs : List (Str × V)} {i : Nat}, (gs.map (·.1)).Nodup → (gs.map (·.1))[i]? = some f → (putF f v gs).map (·.1) = gs.map (·.1) ∧ (putF f v gs).map (·.2) = (gs.map (·.2)).set i v
  | [], _, _, e => by simp at e
  | (g, y) :: gs, 0, _, e => by
    have e : g = f := by simpa using e
    show ((if g = f then (g, v) :: gs else _).map _ = _ ∧ (if g = f then (g, v) :: gs else _).map _ = _)
    rw [if_pos e]; exact ⟨rfl, rfl⟩
  | (g, y) :: gs, i + 1, nd, e => by
    have nd' := List.nodup_cons.mp (show (g :: gs.map (·.1)).Nodup from nd)
    have e' : (gs.map (·.1))[i]? = some f := by simpa using e
    have ne : g ≠ f := fun z => nd'.1 (by rw [z]; exact List.mem_of_getElem? e')
    obtain ⟨a, b⟩ := putF_at (v := v) nd'.2 e'
    show ((if g = f then _ else (g, y) :: putF f v gs).map _ = _ ∧ (if g = f then _ else (g, y) :: putF f v gs).map _ = _)
    rw [if_neg ne]
    exact ⟨by simp [a], by simp [b]⟩
theorem sim_setFld (c i : Nat) {o e : Expr} {f : Str} {mo m : ME} {pos pos' : Pos} (Z : ClsF T X.K c) (hi : (T.nms c)[i]? = some f) (he : SimE T X W e m) (ho : SimE T X W o mo) (hs : swapsWith e (some (.Attribute o f pos')) pos.line X.env = pure false := by rfl) :
    SimS T X W (.Assign [.Attribute o f pos'] e pos) (sFldS c i mo m) := by
  refine PS.weak (ps_fld ho he hs) fun D σ H ⟨S, M, h, sr, hr, p⟩ => ⟨S, M, h, sr, hr, p.bnd sr fun v h1 M1 H1 x e1 sr1 hr1 r1 p1 => ⟨S, M1, h1, sr1, hr1, p1.bnd sr1 fun w h2 M2 H2 y e2 sr2 hr2 r2 p2 => ?_⟩⟩
  unfold wFld at p2
  split at p2
  · rename_i n d
    cases r2 with
    | ref ea =>
      rename_i a
      obtain ⟨q, hq, cc⟩ := hr2.got ea
      rw [hq] at p2
      cases cc with
      | lst _ _ => exact p2.elim
      | ins z nm ra =>
        rename_i dx c' fs gs
        dsimp only at p2
        split at p2
        · rename_i hc
          subst hc
          have hmem := List.mem_of_getElem? hi
          have rd : Rp T X.K M2 H2 d x := by cases r1 with | p r1 => exact r1.ext e2
          have hb : a ∈ M2.no := M2.subT a (List.mem_of_getElem? ea)
          have hlen : gs.length = fs.length := by simpa using ra.length.symm
          have hlim : gs.length < 1000 := by
            have h1 : (gs.map (·.1)).length = gs.length := List.length_map ..
            rw [nm] at h1
            have := List.length_take_le fs.length (T.nms c')
            have h2 : (List.take fs.length (T.nms c')).length ≤ (T.nms c').length := by rw [List.length_take]; omega
            have := Z.ln
            omega
          refine ⟨a, _, dx, gs, rfl, z, Z.cl, Z.no f hmem, hlim, ?_⟩
          split at p2
          · rename_i hl
            have hn : f ∉ gs.map (·.1) := fun zz => by
              rw [nm] at zz
              obtain ⟨j, hj⟩ := List.getElem?_of_mem zz
              have hjl : j < fs.length := by
                have := (List.getElem?_eq_some_iff.mp hj).1
                rw [List.length_take] at this; omega
              rw [List.getElem?_take_of_lt hjl] at hj
              obtain ⟨u1, q1⟩ := List.getElem?_eq_some_iff.mp hj
              obtain ⟨u2, q2⟩ := List.getElem?_eq_some_iff.mp hi
              have := (List.getElem_inj Z.nd).mp (q1.trans q2.symm)
              omega
            rw [putF_new hn]
            refine p2 M2 _ σ (.write (List.mem_of_getElem? ea)) (hr2.write ea (.ins upd_same ?_ ?_)) (sr2.ext (.write (List.mem_of_getElem? ea)))
            · rw [List.map_append, nm, List.length_append]
              show _ = List.take (fs.length + 1) (T.nms c')
              rw [List.take_add_one, show (T.nms c')[fs.length]? = some f by rw [← hl]; exact hi]; rfl
            · rw [List.map_append]
              exact (RpA.append (ra.barred hb) (.cons (rd.barred hb) .nil))
          · split at p2
            · rename_i hl
              have hn : (gs.map (·.1))[i]? = some f := by rw [nm, List.getElem?_take_of_lt hl]; exact hi
              obtain ⟨a1, a2⟩ := putF_at (v := x) (by rw [nm]; exact nodup_take Z.nd _) hn
              refine p2 M2 _ σ (.write (List.mem_of_getElem? ea)) (hr2.write ea (.ins upd_same ?_ ?_)) (sr2.ext (.write (List.mem_of_getElem? ea)))
              · rw [a1, nm, List.length_set]
              · rw [a2]
                exact RpA.set (rd.barred hb) i (ra.barred hb)
            · exact p2.elim
        · exact p2.elim
  · exact p2.elim
end
end EV
end T10
section T11
set_option Elab.async false
set_option linter.all false
set_option maxRecDepth 100000
set_option maxHeartbeats 1000000
namespace EV
open PySem PySem.Spec PyProof.Rows L2

section
variable {T : Tb} {X : Cx} {W : WX} {k : Nat}
/-! ### properties -/
structure PropF (T : Tb) (X : Cx) (k c : Nat) (f : Str) (g : List Vl → Hs → Rs Vl) : Prop where
  ex : ∃ j p a, j + 1 ≤ k ∧ PropOf X.K (T.cls c) f p a ∧ FnR X.prog X.w X.K X.mg X.base (L2.CX X.prog X.w) j a (spF T X.K g)
/-- .. that raise nothing -/
def quiet {α : Type} : Rs α → Rs α
  | some (.error _, _) => none
  | r => r
theorem post_quiet {α β : Type} {K : PySem.W.Frag} {R : Trk → Hp → α → β → Prop} {M : Trk} {H : Hp} {Er Er' : Exn → Hp → Prop} {Q : β → Hp → Prop} {r : Rs α} (p : post T K R M H Er Q (quiet r)) : post T K R M H Er' Q r := by
  match r, p with
  | some (.ok v, h'), p => exact p
def mProp (c : Nat) (g : List Vl → Hs → Rs Vl) (o : ME) : ME := fun S h => bnd (o S h) fun v h1 => match fldV v h1 with
  | some (c', _) => if c' = c then quiet (g [v] h1) else none
  | none => none
theorem run_prop {pins : List (Addr × Obj)} {σ : L2.St} {H : Hp} {s : Shared} {Q : VK} {b : Bool} {a C dx p q : Addr} {gs : List (Str × V)} {f : Str} {j : Nat} {sp : Sp} (I : Inv X pins σ H s) (ea : H a = some (.ins C dx gs)) (c : Cls X.K C) (hp : PropOf X.K C f p q)
    (F : FnR X.prog X.w X.K X.mg X.base (L2.CX X.prog X.w) j q sp) (hr : Room (j + 1) X.A) (h : sp [.ref a] H Q (fun _ _ _ => False)) : wpAny (model X.prog X.w) X.A (getAttr (.ref a) f b) (EP X pins σ Q) X.xe s := by
  obtain ⟨mA, O, _, _, _, _⟩ := ins_get I.hok ea
  obtain ⟨od, J, _⟩ := O.look
  obtain ⟨rest, hrec⟩ := hp.rec_
  have I1 := I.tok (s.toks + 1)
  have hcl : (PySem.W.clsIn X.K C).isSome = true := by
    obtain ⟨cd, z, _⟩ := PySem.W.any_some c.hd
    rw [z]; rfl
  have body : ∀ {R : Result → Shared → Prop}, (∀ r s', CR (L2.CX X.prog X.w) X.stack X.prog X.w H { s with toks := s.toks + 1 } Q (fun _ _ _ => False) r s' → R r s') → codeAny (model X.prog X.w) X.A.in1 (.call (.ref q) ⟨[.ref a], []⟩) R { s with toks := s.toks + 1 } :=
    fun hR => codeAny_mono (F X.A.in1 X.stack _ H [.ref a] [.ref a] Q _ hr.in1 I1.env0.in1 (.cons rfl .nil) h) hR
  refine PySem.W.get_bind I.kIn J (PySem.W.plainGet_of (c.get f)).1 (PySem.W.findObj_data hcl hp.at_ hp.get hp.tak) (PySem.W.plainGet_of (c.get f)).2 (wpAny_call (PySem.W.prop_get (s := { s with toks := s.toks + 1 }) I.kIn hrec (body fun r s' hq => ?_)))
  cases r with
  | error e => exact False.elim ((takes0 (X := X.nox)) e s' (XE.of_call (X := X.nox) (W := fun _ _ _ _ => False) (I1.wish _) (fun _ _ _ h => h) hq))
  | ok fl =>
    cases fl with
    | ret u =>
      obtain ⟨v, H', I3, rv, q3⟩ := I1.after hq
      show wpAny _ _ (handedOut u) _ _ _
      rw [PySem.W.handedOut_of (handed_of rv)]
      exact wpAny_pure ⟨v, H', I3, rv, q3⟩
    | next => exact False.elim hq
    | brk => exact False.elim hq
    | cont => exact False.elim hq
theorem sim_prop (c : Nat) {e : Expr} {f : Str} {m : ME} {pos : Pos} {g : List Vl → Hs → Rs Vl} (F : PropF T X k c f g) (Z : ClsF T X.K c) (hr : Room k X.A) (he : SimE T X W e m) (hb : attributeBase e f X.env (eval e X.env) = eval e X.env := by rfl) : SimE T X W (.Attribute e f pos) (mProp c g m) := by
  obtain ⟨j, p, q, hj, hp, Fq⟩ := F.ex
  refine ⟨fun pins s σ H Q I h => ?_⟩
  have h2 : tr T X.K W m σ H fun x H1 => ∃ a dx gs, x = .ref a ∧ H1 a = some (.ins (T.cls c) dx gs) ∧ spF T X.K g [.ref a] H1 Q (fun _ _ _ => False) := by
    obtain ⟨S, M, h, sr, hr, p⟩ := h
    refine tr_then sr hr p fun v h1 M1 H1 x e1 sr1 hr1 r1 p1 => ?_
    split at p1
    · rename_i c' fs q
      split at p1
      · rename_i hc
        subst hc
        obtain ⟨a, dx, gs, rfl, z, nm, ra⟩ := r1.fld hr1 q
        exact ⟨a, dx, gs, rfl, z, [v], M1, h1, .cons r1 .nil, hr1, post_quiet p1⟩
      · exact p1.elim
    · exact p1.elim
  refine attr_of hb (thn (he.run pins s σ H _ I h2) fun u s1 ⟨x, H1, I1, rx, a, dx, gs, ex, ea, z⟩ => ?_)
  subst ex
  obtain rfl : u = Value.ref a := rx
  exact run_prop I1 ea Z.cl hp Fq (hr.mono hj) z

/-! ### making an instance -/
structure MakeF (T : Tb) (X : Cx) (k c : Nat) (x : Str) (g : List Vl → Hs → Rs Vl) : Prop where
  ex : ∃ j a, j + 1 ≤ k ∧ Mk X.K (T.cls c) a ∧ FnR X.prog X.w X.K X.mg X.base (L2.CX X.prog X.w) j a (spF T X.K g) ∧ X.mg x = some (.ref (T.cls c))
def kMake (c : Nat) (fresh : Bool) (g : List Vl → Hs → Rs Vl) (vs : List Vl) (h : Hs) : Rs Vl := match g (.ref h.length :: vs) (h ++ [.ins c []]) with
  | some (.error e, h') => some (.error e, h'.take h.length)
  | some (.ok (.p .non), h') => backV fresh h.length (.ref h.length) h'
  | _ => none
theorem made_sp {c : Nat} {fresh : Bool} {g : List Vl → Hs → Rs Vl} {vs : List Vl} {xs : List V} {M : Trk} {H : Hp} {h : Hs} {Er : Exn → Hp → Prop} {Q : VK} {E : XK} (hr : HR T X.K M H h) (r : RVA T X.K M H vs xs) (hE : ∀ e H', Er e H' → erX T E e H')
    (p : post T X.K (RV T X.K) M H Er Q (kMake c fresh g vs h)) {x dx : Addr} (hx : H x = none) (hd : H dx = none) (ne : dx ≠ x) :
    spF T X.K g (V.ref x :: xs) (L2.upd (L2.upd H dx (.own x)) x (.ins (T.cls c) dx [])) (fun v H2 => v = .non ∧ Q (.ref x) H2) E := by
  have hx' : L2.upd H dx (.own x) x = none := by rw [upd_ne (fun z => ne z.symm)]; exact hx
  have e1 : Ext M H M (L2.upd H dx (.own x)) := .fresh hd
  have e2 : Ext M (L2.upd H dx (.own x)) (M.add x) (L2.upd (L2.upd H dx (.own x)) x (.ins (T.cls c) dx [])) := .track hx'
  have e := e1.trans e2
  have hr2 : HR T X.K (M.add x) (L2.upd (L2.upd H dx (.own x)) x (.ins (T.cls c) dx [])) (h ++ [.ins c []]) :=
    (hr.fresh hd).track hx' (.ins upd_same (by simp) (by simpa using RpA.nil))
  refine ⟨.ref h.length :: vs, M.add x, _, .cons (.ref (hr.newest x)) (r.ext e), hr2, ?_⟩
  unfold kMake at p
  split at p
  · rename_i q
    rw [q]
    exact fun M' H' e' hr' => hE _ _ (p _ H' (e.trans e').cut (HR.cut (e.trans e') hr hr'))
  · rename_i q
    rw [q]
    intro M' H' y e' hr' ry
    cases ry with
    | p ry =>
      cases ry
      refine ⟨rfl, post_back (e.trans e') hr hr' (.ref (e'.get (hr.newest x))) p⟩
  · exact p.elim
theorem sim_make (c : Nat) (fresh : Bool) {x : Str} {p pos : Pos} {e : Expr} {es : List Expr} {a : MA} {g : List Vl → Hs → Rs Vl} (F : MakeF T X k c x g) (tk : Takes X W) (hr : Room k X.A) (hg : Gl X x) (ha : SimA T X W (e :: es) a) (hd : (x == ("__debug__" : Str)) = false := by decide)
    (he : starEach (e :: es) X.env = (false, eval e X.env) :: starEach es X.env := by rfl) (hpl : (backTo pos (starEach es X.env)).any (·.1) = false := by rfl) : SimE T X W (.Call (.Name x p) (e :: es) [] pos) (mAll (kMake c fresh g) a) := by
  obtain ⟨j, q, hj, MK, Fq, hm⟩ := F.ex
  refine ⟨fun pins s σ H Q I h => wpAny_Call_Name_kw (ld_glob I hg hm ?_ hd)⟩
  have h2 : trA T X.K W a σ H fun vs H1 => ∀ x dx, H1 x = none → H1 dx = none → dx ≠ x → spF T X.K g (V.ref x :: vs) (L2.upd (L2.upd H1 dx (.own x)) x (.ins (T.cls c) dx [])) (fun v H2 => v = .non ∧ Q (.ref x) H2) (fun cc d H' => W cc d σ H') := by
    obtain ⟨S, M, h, sr, hr, p⟩ := h
    exact trA_then sr hr p fun vs h1 M1 H1 xs e1 sr1 hr1 r1 p1 x dx hx hd ne => made_sp hr1 r1 (fun _ _ z => z) p1 hx hd ne
  refine PySem.W.callWith_K (h₀ := X.base) I.ok.mod.kin MK.kp (thn (ha.run pos pins s σ H _ I h2) fun us s1 ⟨vs, H1, I1, r, z⟩ => ⟨I1.kIn, ?_⟩) he hpl
  exact run_made MK Fq (hr.mono hj) tk I1 r z
where
  run_made {pins : List (Addr × Obj)} {σ : L2.St} {H : Hp} {s : Shared} {Q : VK} {us : List Value} {vs : List V} {C q : Addr} {j : Nat} {sp : Sp} (MK : Mk X.K C q) (F : FnR X.prog X.w X.K X.mg X.base (L2.CX X.prog X.w) j q sp) (hr : Room (j + 1) X.A) (tk : Takes X W) (I : Inv X pins σ H s) (r : Vals vs us)
      (h : ∀ x dx, H x = none → H dx = none → dx ≠ x → sp (V.ref x :: vs) (L2.upd (L2.upd H dx (.own x)) x (.ins C dx [])) (fun v H2 => v = .non ∧ Q (.ref x) H2) (fun cc d H' => W cc d σ H')) :
      wpAny (model X.prog X.w) X.A (call (.ref C) us) (EP X pins σ Q) X.xe s := by
    exact run_makeT MK F hr tk I r h
  run_makeT {pins : List (Addr × Obj)} {σ : L2.St} {H : Hp} {s : Shared} {Q : VK} {us : List Value} {vs : List V} {C q : Addr} {j : Nat} {sp : Sp} (MK : Mk X.K C q) (F : FnR X.prog X.w X.K X.mg X.base (L2.CX X.prog X.w) j q sp) (hr : Room (j + 1) X.A) (tk : Takes X W) (I : Inv X pins σ H s) (r : Vals vs us)
      (h : ∀ x dx, H x = none → H dx = none → dx ≠ x → sp (V.ref x :: vs) (L2.upd (L2.upd H dx (.own x)) x (.ins C dx [])) (fun v H2 => v = .non ∧ Q (.ref x) H2) (fun cc d H' => W cc d σ H')) :
      wpAny (model X.prog X.w) X.A (call (.ref C) us) (EP X pins σ Q) X.xe s := by
    have n1 := I.hok.fresh (Nat.le_succ _)
    have n0 := I.hok.fresh (Nat.le_refl _)
    have J := Inv.made (C := C) I
    have z := h _ _ n1 n0 (Nat.ne_of_lt (Nat.lt_succ_self _))
    have rr : Vals (V.ref (s.heap.objs.size + 1) :: vs) (Value.ref (s.heap.objs.size + 1) :: us) := .cons rfl r
    have go := F _ X.stack _ _ (Value.ref (s.heap.objs.size + 1) :: us) _ _ _ (hr.make C us []) (J.env0.make C us []) rr z
    refine wpAny_call (make_map (f := q) I.kIn MK.makes MK.init (beq_iff_eq.mp MK.fn) (codeAny_mono go fun res s' hq' => ?_))
    cases res with
    | error er => exact tk er s' (XE.of_call J (fun _ _ _ y => y) hq')
    | ok fl =>
      cases fl with
      | next => exact False.elim hq'
      | brk => exact False.elim hq'
      | cont => exact False.elim hq'
      | ret u =>
        obtain ⟨v, H', I3, rv, ev, q3⟩ := J.after hq'
        subst ev
        exact ⟨rv, ⟨V.ref _, H', I3, rfl, q3⟩⟩
end

/-! ### def f(a, .., *v) -/
def fnRunStar (np n : Nat) (fresh : Bool) (b : MS) (args : List Vl) (h : Hs) : Rs Vl := match pures (args.drop np) with
  | some ds => if np ≤ args.length ∧ ds.length ≤ 16777216 then fnRun (np + 1) n fresh b (args.take np ++ [.p (.tup ds)]) h else none
  | none => none
theorem RVA.take {T : Tb} {K : PySem.W.Frag} {M : Trk} {H : Hp} : ∀ {ds : List Vl} {vs : List V} (n : Nat), RVA T K M H ds vs → RVA T K M H (ds.take n) (vs.take n)
  | _, _, 0, _ => .nil
  | _, _, _ + 1, .nil => .nil
  | _, _, n + 1, .cons h r => .cons h (RVA.take n r)
theorem RVA.drop {T : Tb} {K : PySem.W.Frag} {M : Trk} {H : Hp} : ∀ {ds : List Vl} {vs : List V} (n : Nat), RVA T K M H ds vs → RVA T K M H (ds.drop n) (vs.drop n)
  | _, _, 0, r => r
  | _, _, _ + 1, .nil => .nil
  | _, _, n + 1, .cons _ r => RVA.drop n r
section
variable {P : Program} {w : World} {K : PySem.W.Frag} {mg : Str → Option Value} {base : Heap} {T : Tb}
theorem fn_simStar {x qual : Str} {st : Stmt} {f : Addr} {fd : FuncData} {N ps : List Str} {pv : Str} {k : Nat} {b : MS} {fresh : Bool} (F : Fun K x qual st f fd) (S : FnScope N (ps ++ [pv]) (defScope st))
    (hb : ∀ (kV doc pm : Value) (an : Option Addr) (cdv ct : Value) (us rest : List Value), us.length = ps.length → bindArgs (PySem.W.fnOf x qual (defArgs st) (defBody st) (defScope st) .none kV doc pm an cdv ct) ⟨us ++ rest, []⟩ = (newTuple rest >>= fun t => pure (ps.zip us ++ [(pv, t)])))
    (hbody : BodyOk P w K mg base T k qual st f N b) : FnR P w K mg base (L2.CX P w) (k + 1) f (spF T K (fnRunStar ps.length N.length fresh b)) := by
  intro A outer s H us vs Q E hr e0 r h
  obtain ⟨oc, od, kV, doc, pm, an, cdv, ct, osl, rfl, lk, hcd⟩ := F.ex
  obtain ⟨args, M, h', ra, hR, p⟩ := h
  unfold fnRunStar at p
  split at p
  · rename_i ds q
    split at p
    · rename_i hz
      have rd := (ra.drop ps.length).pures q
      have l2 : (vs.drop ps.length).length = ds.length := rd.length.symm
      have hvl : ps.length ≤ vs.length := by rw [← ra.length]; exact hz.1
      have r' : Vals (vs.take ps.length ++ vs.drop ps.length) us := by rw [List.take_append_drop]; exact r
      obtain ⟨u1, u2, rfl, r1, r2⟩ := StX.vals_split r'
      have c1 : (vs.take ps.length).length = ps.length := by rw [List.length_take]; omega
      have c2 : u1.length = ps.length := by rw [← r1.length]; exact c1
      have c3 : u2.length ≤ sizeLine := by rw [← r2.length, l2]; exact le_line hz.2
      have fr : H s.heap.objs.size = Option.none := e0.hok.fresh (Nat.le_refl _)
      refine StX.run_bnd lk hcd S hr.r e0 (G := fun xs H2 => ∃ t, H t = Option.none ∧ xs = vs.take ps.length ++ [V.ref t] ∧ H2 = L2.upd H t (.tup (vs.drop ps.length))) (fun A' Ex Q' z => ?_) fun s2 H2 xs g _ => ?_
      · rw [hb kV doc pm an cdv ct u1 u2 c2]
        refine wpAny_bind (wpAny_newTuple (wpAny_pure ?_) c3)
        have un := StX.un_laid (fs := frs outer) (s := s) (o := ({ cls := .type "tuple", data := .seq u2.toArray } : Obj)) (u := .tup (vs.drop ps.length)) fr
        have tupOk : ObjOk P w (L2.upd H s.heap.objs.size (.tup (vs.drop ps.length))) (s.heap.push ({ cls := .type "tuple", data := .seq u2.toArray } : Obj)) s.heap.objs.size (.tup (vs.drop ps.length)) :=
          ⟨by rw [l2]; exact le_line hz.2, u2, r2, ⟨_, Heap.get?_push_size _ rfl, rfl, _, rfl⟩⟩
        have go := z _ _ (vs.take ps.length ++ [V.ref s.heap.objs.size]) (u1 ++ [Value.ref s.heap.objs.size]) (StX.env0_laid e0 tupOk) un rfl (fun e s' => StX.cxUp outer s H _ _ E e s' un (fun b o q => Heap.get?_push_of_some _ q) rfl)
          (r1.append (.cons rfl .nil)) (by rw [List.length_append, List.length_append, c1]; rfl) ⟨_, fr, rfl, rfl⟩
        rwa [List.zip_append c2.symm] at go
      · obtain ⟨t, ht, rfl, rfl⟩ := g
        refine body_runs (np := ps.length + 1) (fresh := fresh) hbody (hr.deeper _) (by rw [List.length_append, c1]; rfl) ⟨args.take ps.length ++ [.p (.tup ds)], M, h', ?_, hR.fresh ht, post.ext p (.fresh ht)⟩
        exact RVA.append ((ra.take ps.length).ext (.fresh ht)) (.cons (new_tup hR ht rd) .nil)
    · exact p.elim
  · exact p.elim
end
end EV
end T11
section T12
set_option Elab.async false
set_option linter.all false
set_option maxRecDepth 100000
namespace EV
open PySem PySem.Spec PyProof.Rows L2

/-! ### sorted(xs), xs tuples of ints -/
def tupI1 : P → Option (List Int)
  | .tup ds => nums ds
  | _ => none
def tupsI : List P → Option (List (List Int))
  | [] => some []
  | d :: ds => match tupI1 d, tupsI ds with
    | some n, some l => some (n :: l)
    | _, _ => none
def mkT (ns : List Int) : P := .tup (ns.map .int)
theorem nums_eq : ∀ {ds : List P} {l : List Int}, nums ds = some l → ds = l.map .int
  | [], l, e => by simp only [nums, Option.some.injEq] at e; subst e; rfl
  | d :: ds, l, e => by
    cases d with
    | int i =>
      cases q : nums ds with
      | none => simp [nums, q] at e
      | some m =>
        simp [nums, q] at e
        subst e
        rw [nums_eq q]; rfl
    | _ => simp [nums] at e
theorem tupI1_eq {d : P} {n : List Int} (e : tupI1 d = some n) : d = mkT n := by
  unfold tupI1 at e
  split at e
  · rw [nums_eq e]; rfl
  · cases e
theorem tupsI_cons {d : P} {ds : List P} {l : List (List Int)} (e : tupsI (d :: ds) = some l) : ∃ n m, l = n :: m ∧ tupI1 d = some n ∧ tupsI ds = some m := by
  simp only [tupsI] at e
  split at e
  · rename_i n m a b
    cases e
    exact ⟨n, m, rfl, a, b⟩
  · cases e
theorem tupsI_mk {d : P} {ds : List P} {n : List Int} {m : List (List Int)} (a : tupI1 d = some n) (b : tupsI ds = some m) : tupsI (d :: ds) = some (n :: m) := by
  simp only [tupsI, a, b]
theorem tupsI_eq : ∀ {ds : List P} {l : List (List Int)}, tupsI ds = some l → ds = l.map mkT
  | [], l, e => by simp only [tupsI, Option.some.injEq] at e; subst e; rfl
  | d :: ds, l, e => by
    obtain ⟨n, m, rfl, a, b⟩ := tupsI_cons e
    rw [tupI1_eq a, tupsI_eq b]; rfl
theorem tupsI_perm {l m : List P} (p : l.Perm m) : ∀ {k : List (List Int)}, tupsI m = some k → ∃ k', tupsI l = some k' ∧ k'.Perm k := by
  induction p with
  | nil => exact fun e => ⟨_, e, .refl _⟩
  | cons x _ ih =>
    intro k e
    obtain ⟨n, r, rfl, a, b⟩ := tupsI_cons e
    obtain ⟨k', e', p'⟩ := ih b
    exact ⟨n :: k', tupsI_mk a e', .cons _ p'⟩
  | swap x y l =>
    intro k e
    obtain ⟨n, r, rfl, a, b⟩ := tupsI_cons e
    obtain ⟨n', r', rfl, a', b'⟩ := tupsI_cons b
    exact ⟨n' :: n :: r', tupsI_mk a' (tupsI_mk a b'), .swap _ _ _⟩
  | trans _ _ h1 h2 =>
    intro k e
    obtain ⟨k1, e1, p1⟩ := h2 e
    obtain ⟨k2, e2, p2⟩ := h1 e1
    exact ⟨k2, e2, p2.trans p1⟩
section
variable {T : Tb} {K : PySem.W.Frag} {M : Trk} {H : Hp}
theorem RpA.perm {ys xs : List V} (p : ys.Perm xs) : ∀ {ds : List P}, RpA T K M H ds xs → ∃ ds', RpA T K M H ds' ys ∧ ds'.Perm ds := by
  induction p with
  | nil => exact fun r => ⟨_, r, .refl _⟩
  | cons x _ ih =>
    intro ds r
    cases r with
    | cons h r =>
      obtain ⟨ds', r', p'⟩ := ih r
      exact ⟨_, .cons h r', .cons _ p'⟩
  | swap x y l =>
    intro ds r
    cases r with
    | cons h r =>
      cases r with
      | cons h' r => exact ⟨_, .cons h' (.cons h r), .swap _ _ _⟩
  | trans _ _ h1 h2 =>
    intro ds r
    obtain ⟨d1, r1, p1⟩ := h2 r
    obtain ⟨d2, r2, p2⟩ := h1 r1
    exact ⟨d2, r2, p2.trans p1⟩
theorem Rp.tupI {d : P} {x : V} {ns : List Int} (r : Rp T K M H d x) (e : tupI1 d = some ns) : TupI K H x ns := by
  have z := tupI1_eq e
  subst z
  cases r with
  | tup h ra =>
    have q := RpA.ints ra
    subst q
    exact ⟨_, rfl, h.sqT⟩
end
/-! the order -/
def ins1 (B : Int) (n : List Int) : List (List Int) → List (List Int)
  | [] => [n]
  | m :: l => if TS.code B n ≤ TS.code B m then n :: m :: l else m :: ins1 B n l
def sortC (B : Int) : List (List Int) → List (List Int)
  | [] => []
  | n :: l => ins1 B n (sortC B l)
theorem ins1_perm (B : Int) (n : List Int) : ∀ l, (ins1 B n l).Perm (n :: l)
  | [] => .refl _
  | m :: l => by
    unfold ins1
    split
    · exact .refl _
    · exact ((ins1_perm B n l).cons m).trans (.swap _ _ _)
theorem sortC_perm (B : Int) : ∀ l, (sortC B l).Perm l
  | [] => .refl _
  | n :: l => (ins1_perm B n _).trans ((sortC_perm B l).cons n)
abbrev SrtC (B : Int) (l : List (List Int)) : Prop := l.Pairwise fun n m => TS.code B n ≤ TS.code B m
theorem ins1_srt (B : Int) (n : List Int) : ∀ {l}, SrtC B l → SrtC B (ins1 B n l)
  | [], _ => by simp [ins1]
  | m :: l, h => by
    have h' := List.pairwise_cons.mp h
    unfold ins1
    split
    · rename_i c
      refine List.pairwise_cons.mpr ⟨fun a ha => ?_, h⟩
      rcases List.mem_cons.mp ha with z | z
      · rw [z]; exact c
      · exact Int.le_trans c (h'.1 a z)
    · rename_i c
      refine List.pairwise_cons.mpr ⟨fun a ha => ?_, ins1_srt B n h'.2⟩
      rcases List.mem_cons.mp ((ins1_perm B n l).mem_iff.mp ha) with z | z
      · rw [z]; omega
      · exact h'.1 a z
theorem sortC_srt (B : Int) : ∀ l, SrtC B (sortC B l)
  | [] => List.Pairwise.nil
  | n :: l => ins1_srt B n (sortC_srt B l)
theorem srt_uniq {B : Int} : ∀ {l m : List (List Int)}, l.Perm m → SrtC B l → SrtC B m → (∀ x ∈ l, ∀ y ∈ l, TS.code B x = TS.code B y → x = y) → l = m
  | [], m, p, _, _, _ => by rw [List.nil_perm.mp p]
  | a :: l, m, p, h1, h2, inj => by
    cases m with
    | nil => exact absurd p.length_eq (by simp)
    | cons b m =>
      have h1' := List.pairwise_cons.mp h1
      have h2' := List.pairwise_cons.mp h2
      have e : a = b := by
        have ma : a ∈ b :: m := p.mem_iff.mp List.mem_cons_self
        have mb : b ∈ a :: l := p.mem_iff.mpr List.mem_cons_self
        rcases List.mem_cons.mp ma with z | z
        · exact z
        · rcases List.mem_cons.mp mb with y | y
          · exact y.symm
          · exact inj a List.mem_cons_self b mb (Int.le_antisymm (h1'.1 b y) (h2'.1 a z))
      subst e
      rw [srt_uniq (List.Perm.cons_inv p) h1'.2 h2'.2 fun x hx y hy => inj x (List.mem_cons_of_mem _ hx) y (List.mem_cons_of_mem _ hy)]
theorem code_bd {B : Int} (hB : 0 ≤ B) : ∀ {ns : List Int}, TS.Bd B ns → 0 ≤ TS.code B ns ∧ TS.code B ns < B ^ ns.length
  | [], _ => by simp [TS.code]
  | d :: r, h => by
    obtain ⟨a, b⟩ := code_bd hB h.tail
    obtain ⟨c0, c1⟩ := TS.num1 a b h.head.1 h.head.2
    exact ⟨c0, by rw [List.length_cons, Int.pow_succ]; exact c1⟩
theorem code_inj {B : Int} (hB : 0 ≤ B) : ∀ {ns ms : List Int}, ns.length = ms.length → TS.Bd B ns → TS.Bd B ms → TS.code B ns = TS.code B ms → ns = ms
  | [], [], _, _, _, _ => rfl
  | d :: r, d' :: r', hl, h, h', e => by
    have hl' : r.length = r'.length := by simpa using hl
    obtain ⟨a, b⟩ := code_bd hB h.tail
    obtain ⟨a', b'⟩ := code_bd hB h'.tail
    have e : d * B ^ r.length + TS.code B r = d' * B ^ r'.length + TS.code B r' := e
    rw [← hl'] at e b'
    have hd : d = d' := by
      rcases Int.lt_trichotomy d d' with c | c | c
      · exfalso
        have : (d + 1) * B ^ r.length ≤ d' * B ^ r.length := Int.mul_le_mul_of_nonneg_right (by omega) (by omega)
        rw [Int.add_mul, Int.one_mul] at this
        omega
      · exact c
      · exfalso
        have : (d' + 1) * B ^ r.length ≤ d * B ^ r.length := Int.mul_le_mul_of_nonneg_right (by omega) (by omega)
        rw [Int.add_mul, Int.one_mul] at this
        omega
    subst hd
    rw [code_inj hB hl' h.tail h'.tail (by omega)]
def okT (B : Int) (d : Nat) (l : List (List Int)) : Bool := l.all fun ns => (ns.length == d) && ns.all fun m => decide (0 ≤ m) && decide (m < B)
theorem okT_at {B : Int} {d : Nat} {l : List (List Int)} (h : okT B d l = true) {ns : List Int} (m : ns ∈ l) : ns.length = d ∧ TS.Bd B ns := by
  have q := List.all_eq_true.mp h ns m
  simp only [Bool.and_eq_true, beq_iff_eq, List.all_eq_true, decide_eq_true_eq] at q
  exact ⟨q.1, q.2⟩
def kSortT (B : Nat) (vs : List Vl) (h : Hs) : Rs Vl := match vs with
  | [v] => match lstV v h with
    | some ds => match tupsI ds with
      | some l => if ds.length < 64 ∧ 1 ≤ (l.headD [0]).length ∧ okT B (l.headD [0]).length l = true then ret (.p (.lst ((sortC B l).map mkT))) h else none
      | none => none
    | none => none
  | _ => none
section
variable {T : Tb} {X : Cx} {W : WX}
abbrev rSortX (K : PySem.W.Frag) (B : Nat) : List V → Hp → VK → Prop := fun xs H Q => ∃ d, 1 ≤ d ∧ rSortU K d B xs H Q
theorem srtd_of {K : PySem.W.Frag} {M : Trk} {H : Hp} {B : Int} : ∀ {ds : List P} {ys : List V} {l : List (List Int)}, RpA T K M H ds ys → tupsI ds = some l → ys.Pairwise (fun x y => ∀ n m, TupI K H x n → TupI K H y m → TS.code B n ≤ TS.code B m) → SrtC B l
  | [], _, l, _, e, _ => by simp only [tupsI, Option.some.injEq] at e; subst e; exact List.Pairwise.nil
  | d :: ds, _, l, .cons h r, e, p => by
    obtain ⟨n, m, rfl, a, b⟩ := tupsI_cons e
    have p' := List.pairwise_cons.mp p
    refine List.pairwise_cons.mpr ⟨fun k hk => ?_, srtd_of r b p'.2⟩
    have z := tupsI_eq b
    subst z
    obtain ⟨i, hi⟩ := List.getElem?_of_mem hk
    obtain ⟨y, hy, ry⟩ := r.get (i := i) (d := mkT k) (by rw [List.getElem?_map, hi]; rfl)
    refine p'.1 y (List.mem_of_getElem? hy) n k (h.tupI a) (ry.tupI ?_)
    have := @nums_map k
    exact this
where
  nums_map : ∀ (k : List Int), nums (k.map P.int) = some k
    | [] => rfl
    | i :: k => by simp [nums, nums_map k]
theorem s_sortT {B : Nat} : OpN T X.K (kSortT B) (rSortX X.K B) := by
  intro M H h vs xs Er Q hr r p
  unfold kSortT at p
  split at p
  · split at p
    · rename_i ds e
      split at p
      · rename_i l el
        split at p
        · rename_i hz
          cases r with
          | cons r1 r2 =>
            cases r2
            obtain ⟨a, ys, rfl, hs, ra⟩ := r1.lstV hr e
            refine ⟨(l.headD [0]).length, hz.2.1, a, ys, rfl, hs, by rw [← ra.length]; exact hz.1, fun x hx => ?_, fun zs q pz pw hq => ?_⟩
            · obtain ⟨i, hi⟩ := List.getElem?_of_mem hx
              obtain ⟨d, hd, rd⟩ := ra.get' hi
              have eq := tupsI_eq el
              rw [eq, List.getElem?_map] at hd
              cases hl : l[i]? with
              | none => rw [hl] at hd; cases hd
              | some ns =>
                rw [hl] at hd
                cases hd
                exact ⟨ns, rd.tupI (srtd_of.nums_map ns), okT_at hz.2.2 (List.mem_of_getElem? hl)⟩
            · obtain ⟨ds', rz, pd⟩ := ra.perm pz
              obtain ⟨l', el', pl⟩ := tupsI_perm pd el
              have s1 := srtd_of rz el' pw
              have e2 : l' = sortC B l := by
                refine srt_uniq (pl.trans (sortC_perm B l).symm) s1 (sortC_srt B l) fun x hx y hy e => ?_
                obtain ⟨a1, a2⟩ := okT_at hz.2.2 (pl.mem_iff.mp hx)
                obtain ⟨b1, b2⟩ := okT_at hz.2.2 (pl.mem_iff.mp hy)
                exact code_inj (by omega) (a1.trans b1.symm) a2 b2 e
              have e3 := tupsI_eq el'
              rw [e2] at e3
              rw [e3] at rz
              exact p.ret (.fresh hq) (hr.fresh hq) (new_lst hr hq rz)
        · exact p.elim
      · exact p.elim
    · exact p.elim
  · exact p.elim
theorem sim_sortT (B : Nat) {e : Expr} {a : MA} {p pos : Pos} (hm : X.mg "sorted" = none) (hb : bootBuiltins "sorted" = some (.builtin "sorted")) (ha : SimA T X W [e] a) (hg : Gl X "sorted" := by rfl)
    (he : starEach [e] X.env = (false, eval e X.env) :: starEach [] X.env := by rfl) : SimE T X W (.Call (.Name "sorted" p) [e] [] pos) (mAll (kSortT B) a) :=
  sim_callB (r := rSortX X.K B) (fun pins s σ H xs us Q I r ⟨d, hd, h⟩ => cr_sortT hd pins s σ H xs us Q I r h) s_sortT hg hm hb ha (he := he) (hpl := rfl)
/-! ### defs as values -/
theorem sim_fnV (i : Nat) {x : Str} {pos : Pos} (hm : X.mg x = some (.ref (T.fns i))) (hg : Gl X x := by rfl) (hd : (x == ("__debug__" : Str)) = false := by decide) : SimE T X W (.Name x pos) (mC (.fn i)) :=
  PE.weak (pe_glob (v := .ref (T.fns i)) hg hm rfl hd) fun σ H Q ⟨_, _, _, _, hr, p⟩ => p.ret .refl hr (.p (.fn i))
structure FnV (T : Tb) (X : Cx) (k : Nat) (F : FnsT) (i : Nat) : Prop where
  run : FnR X.prog X.w X.K X.mg X.base (L2.CX X.prog X.w) k (T.fns i) (spF T X.K (F i))
  kp : PySem.W.keepIn X.K (.ref (T.fns i)) = true
def mCallL (j : Nat) (ns : List Nat) (F : FnsT) (a : MA) : ME := fun S h => match S[j]? with
  | some (some (.p (.fn i))) => if i ∈ ns then mAll (F i) a S h else none
  | _ => none
theorem sim_callL (j : Nat) {ns : List Nat} {F : FnsT} {k : Nat} {x : Str} {p pos : Pos} {e : Expr} {es : List Expr} {a : MA} (Z : ∀ i ∈ ns, FnV T X k F i) (tk : Takes X W) (hr : Room k X.A) (ha : SimA T X W (e :: es) a) (hN : X.N[j]? = some x := by rfl)
    (hv : Vis X.env.scope x := by first | exact Or.inl rfl | exact Or.inr (Or.inl rfl) | exact Or.inr (Or.inr rfl)) (hdb : (x == ("__debug__" : Str)) = false := by decide) (hcd : (x == ("__classdict__" : Str)) = false := by decide)
    (he : starEach (e :: es) X.env = (false, eval e X.env) :: starEach es X.env := by rfl) (hpl : (backTo pos (starEach es X.env)).any (·.1) = false := by rfl) : SimE T X W (.Call (.Name x p) (e :: es) [] pos) (mCallL j ns F a) := by
  refine ⟨fun pins s σ H Q I ⟨S, M, h, sr, hR, pp⟩ => ?_⟩
  unfold mCallL at pp
  split at pp
  · rename_i i ei
    split at pp
    · rename_i hi
      obtain ⟨y, ey, ry⟩ := sr.at' j _ ei
      cases ry with
      | p ry =>
        cases ry
        have V := Z i hi
        refine wpAny_Call_Name_kw (thn ((pe_var (pos := p) hN hv hdb hcd).run pins s σ H (fun v H1 => v = .ref (T.fns i) ∧ H1 = H) I ⟨_, ey, rfl, rfl⟩) fun u s1 ⟨v, H1, I1, r1, q1⟩ => ?_)
        obtain ⟨rfl, rfl⟩ := q1
        cases r1
        refine PySem.W.callWith_K (h₀ := X.base) I1.ok.mod.kin V.kp (thn (ha.run pos pins s1 σ _ _ I1 (trA_spF ⟨S, M, h, sr, hR, pp⟩)) fun us s2 ⟨vs, H2, I2, r, q⟩ => ⟨I2.kIn, ?_⟩) he hpl
        exact run_own V.run tk hr I2 r q
    · exact pp.elim
  · exact pp.elim
end
end EV
end T12
section T13
set_option Elab.async false
set_option linter.all false
set_option maxRecDepth 100000
namespace EV
open PySem PySem.Spec PyProof.Rows L2

/-! ### enumerate(v) of whatever begins -/
set_option maxHeartbeats 1000000 in
theorem enum_meets1 {v : Value} {io : Obj} {G : Heap → Prop} (B : Begins v io G) :
    Meets (Builtin.«enumerate.__new__» ⟨[.type "enumerate", v], []⟩) (fun _ R s => G s.heap ∧
      R (.ok (.ret (.ref (s.heap.push io).objs.size))) { s with heap := (s.heap.push io).push { cls := .type "enumerate", data := .fields #[.none, .bool false, .ref s.heap.objs.size, rawInt 0, .none, .none] } }) :=
  .of_wp fun prog w A R s hs => by
    obtain ⟨hp, g, d, tk, os⟩ := s
    obtain ⟨g0, hs⟩ := hs
    have sub := sub_enumerate
    have it1 : ∀ {A' : Around} {E : Value → Shared → Prop} {Q : Value → Shared → Prop}, Q (.ref hp.objs.size) ⟨hp.push io, g, d, tk, os⟩ → wpAny (model prog w) A' (pyIter v) Q E ⟨hp, g, d, tk, os⟩ :=
      fun q => B.iter prog w _ _ ⟨hp, g, d, tk, os⟩ _ g0 q
    wp_walk
    refine wpAny_stack_any fun st => wpAny_pure ?_
    split
    · rename_i c _ _ _ _ _
      cases (c == Value.type "enumerate") <;> (wp_walk using it1; exact ⟨_, rfl, hs⟩)
    · wp_walk using it1
      exact ⟨_, rfl, hs⟩
theorem enum_call1 {prog : Program} {w : World} {A : Around} {E : Value → Shared → Prop} {s : Shared} {v : Value} {io : Obj} {G : Heap → Prop} {Q : Value → Shared → Prop} (B : Begins v io G) (g0 : G s.heap)
    (next : ∀ h', IsEnum h' (s.heap.objs.size + 1) s.heap.objs.size 0 .none → h'.get? s.heap.objs.size = some io → h'.objs.size = s.heap.objs.size + 2 → (∀ b o, s.heap.get? b = some o → h'.get? b = some o) → Q (.ref (s.heap.objs.size + 1)) { s with heap := h' }) :
    wpAny (model prog w) A (call (.type "enumerate") [v]) Q E s := by
  refine callType_new F.called_enumerate (by decide) (F.typeCall_enumerate_1 _) (F.newCall_enumerate_1 _) (fun obj => F.args_object_init_2 obj _) F.entry_enumerate_new (enum_meets1 B) ⟨g0, ?_⟩
  have z1 : (s.heap.push io).objs.size = s.heap.objs.size + 1 := Heap.size_push ..
  generalize hE : ({ cls := .type "enumerate", data := .fields #[.none, .bool false, .ref s.heap.objs.size, rawInt 0, .none, .none] } : Obj) = eo
  have at1 : ((s.heap.push io).push eo).get? (s.heap.objs.size + 1) = some eo := by
    have q := Heap.get?_push_size (s.heap.push io) (o := eo) (by rw [← hE]; rfl)
    rw [z1] at q; exact q
  have isE : IsEnum ((s.heap.push io).push eo) (s.heap.objs.size + 1) s.heap.objs.size 0 .none := by rw [← hE] at at1 ⊢; exact at1
  show _ ∧ _
  rw [z1]
  exact ⟨⟨_, isE, rfl⟩, next _ isE (Heap.get?_push_of_some _ (Heap.get?_push_size _ B.free)) (by rw [Heap.size_push, z1]) fun b o x => Heap.get?_push_of_some _ (Heap.get?_push_of_some _ x)⟩

/-! ### enumerate(tuple) in a walk -/
def ItEt (a : Addr) (xs : List V) : It :=
  ⟨fun i H => H a = some (.tup xs) ∧ i < xs.length, fun i H v H' => ∃ t x, v = .ref t ∧ H t = none ∧ H' = upd H t (.tup [.int (i : Nat), x]) ∧ xs[i]? = some x, fun i H => H a = some (.tup xs) ∧ xs.length ≤ i⟩
theorem turn_enumT {P : Program} {w : World} {K : PySem.W.Frag} {elts : List Expr} {kk : Nat} {tpos : Pos} (a e it : Addr) (xs : List V) :
    Turn P w K (.Tuple elts kk tpos) (ItEt a xs) [e, it] e (fun i h => (∃ old, IsEnum h e it (0 + ((i : Nat) : Int)) old) ∧ h.IsTupleIter it a i ∧ e ≠ it) where
  mem := by simp
  self := fun A i s Q E st q => by
    obtain ⟨⟨_, z⟩, _⟩ := st
    exact wpAny_pyIter_enum z q
  obj := fun i h st b hb => by
    obtain ⟨⟨old, z⟩, ⟨o, ho, _, hd⟩, _⟩ := st
    rcases (show b = e ∨ b = it by simpa using hb) with y | y <;> subst y
    · exact ⟨_, z, fun v q => nomatch q⟩
    · exact ⟨o, ho, fun v q => by rw [hd] at q; cases q⟩
  keep := fun i h h' st kp => by
    obtain ⟨⟨old, z⟩, y, ne⟩ := st
    exact ⟨⟨old, kp e (by simp) _ z⟩, y.at fun o q => kp it (by simp) o q, ne⟩
  item := by
    intro X hP hw hK hc i pins s σ H E I free st go
    subst hP hw hK
    obtain ⟨⟨old, z⟩, y, ne⟩ := st
    obtain ⟨ha, hi⟩ := go
    obtain ⟨its, rv, tp, _⟩ := I.tuple (.inl (.of ha))
    have nai : a ≠ it := fun q => by
      have := (free it (by simp)).1
      rw [← q, ha] at this; cases this
    have nae : a ≠ e := fun q => by
      have := (free e (by simp)).1
      rw [← q, ha] at this; cases this
    have hd3 : X.A.in1.handled = none := by simpa using I.ok.hd hc
    have D := Draws.tuple (prog := X.prog) (w := X.w) hd3 it a nai its.toArray
    have lt1 : e < s.heap.objs.size := Heap.lt_size z
    have lt2 : it < s.heap.objs.size := by obtain ⟨_, q, _⟩ := y; exact Heap.lt_size q
    have sz : i < its.toArray.size := by simpa [← rv.length] using hi
    refine wpAny_pyNext_enum_itemC D z ⟨y, tp⟩ sz ne (by simp [ne, Ne.symm nae]) fun u h1 tk pu out st1 new hsz kp => ?_
    refine ⟨_, rfl, wpAny_letOwnedTupleGo_enum out fun h2 z2 sb => ?_⟩
    obtain ⟨x, hx, rx⟩ : ∃ x, xs[i]? = some x ∧ RelV x u := by
      have pu' : its[i]? = some u := by simpa using pu
      refine ⟨xs[i], List.getElem?_eq_getElem hi, ?_⟩
      obtain ⟨u', e1, r1⟩ := rv.get (List.getElem?_eq_getElem hi)
      rw [pu'] at e1
      cases e1
      exact r1
    have nw : h2.get? s.heap.objs.size = some { cls := .type "tuple", data := .seq #[.int (0 + (i : Int)) tk, u] } := (sb.2 _ (Nat.ne_of_gt lt1)).trans new
    have ok : ObjOk X.prog X.w (upd H s.heap.objs.size (.tup [.int (i : Nat), x])) h2 s.heap.objs.size (.tup [.int (i : Nat), x]) :=
      ⟨by show 2 ≤ sizeLine; decide, [.int (0 + (i : Int)) tk, u], .cons ⟨tk, by rw [Int.zero_add]⟩ (.cons rx .nil), ⟨_, nw, rfl, _, rfl⟩⟩
    have J : Inv X pins σ (upd H s.heap.objs.size (.tup [.int (i : Nat), x])) { s with heap := h2, toks := tk + 1 } :=
      I.turnedNew (ch := [e, it]) (fun b ob hb q => (sb.2 b (fun m => hb (by simp [m]))).trans (kp b ob (fun m => hb (by simp [m])) (fun m => hb (by simp [m])) q)) free (Nat.le_refl _) ok
    refine ⟨.ref s.heap.objs.size, _, J, rfl, ⟨_, x, rfl, I.hok.fresh (Nat.le_refl _), rfl, hx⟩, ⟨⟨u, ?_⟩, st1.1.at fun o q => (sb.2 it (Ne.symm ne)).trans q, ne⟩, fun b hb => ?_⟩
    · rw [show (0 : Int) + ((i + 1 : Nat) : Int) = 0 + (i : Int) + 1 by omega]; exact z2
    · have lb : b < s.heap.objs.size := by
        rcases (show b = e ∨ b = it by simpa using hb) with m | m <;> (subst m; assumption)
      rw [upd_ne (Nat.ne_of_lt lb)]
      exact (free b hb).1
  done := by
    intro X hP hw hK hc i pins s σ H E I free st stop
    subst hP hw hK
    obtain ⟨⟨old, z⟩, y, ne⟩ := st
    obtain ⟨ha, hi⟩ := stop
    obtain ⟨its, rv, tp, _⟩ := I.tuple (.inl (.of ha))
    obtain ⟨f0, f1, f2, f3, f4, f5⟩ := free it (by simp)
    have hd3 : X.A.in1.in1.handled = none := by simpa using I.ok.hd hc
    obtain ⟨oi, hoi, hci, hdi⟩ := y
    obtain ⟨ot, hot, hct, nt, hdt⟩ := tp
    have h1 : X.A.handled = none := I.ok.hd hc
    have zz : its.toArray[i]? = none := by
      have q : its.length ≤ i := by rw [← rv.length]; exact hi
      simpa using q
    exact wpAny_pyNext_enum_endD (n := i) (P := fun _ _ => True) (fp := [it, a]) (St := fun j h => h.IsTupleIter it a j ∧ h.IsTuple a its.toArray ∧ j = i)
      { live := fun _ _ q => let ⟨o, ho, _⟩ := q.1; ⟨o, ho⟩
        frame := fun _ _ _ q kp => ⟨q.1.at fun o e => kp it (by simp) o e, q.2.1.at fun o e => kp a (by simp) o e, q.2.2⟩
        item := fun j s' Q' E' hj q _ => absurd q.2.2 (by omega)
        done := fun s' Q' E' q hE => wpAny_nextOf_tuple_end (by simpa using h1) q.1 q.2.1 zz hE } z ⟨⟨oi, hoi, hci, hdi⟩, ⟨ot, hot, hct, nt, hdt⟩, rfl⟩
      fun h' eb => ⟨rfl, I.turned (t' := s.toks) (fun b o hb q => eb b o hb q) f0 f1 f3 f4 f5⟩
def iEnT (ta : TA) : TI := fun σ H R => ta σ H fun vs H1 => ∃ a xs, vs = [.ref a] ∧ H1 a = some (.tup xs) ∧ R (ItEt a xs) H1
theorem pi_enumT {X : Cx} {e : Expr} {ta : TA} {p pos tpos : Pos} {elts : List Expr} {kk : Nat} (hg : Gl X "enumerate") (hm : X.mg "enumerate" = none) (ha : PA X [e] ta) (hs : starEach [e] X.env = [(false, eval e X.env)] := by rfl) :
    PI X (.Tuple elts kk tpos) (.Call (.Name "enumerate" p) [e] [] pos) (iEnT ta) := by
  refine ⟨fun pins s σ H R I h => Call_ (ld_blt I hg hm boot_enumerate (PyProof.Rows.callWith_type1 (thn (ha.run pos pins s σ H _ I h) fun us s1 ⟨vs, H1, I1, r1, a, xs, ev, hq, q⟩ => ?_) hs rfl))⟩
  subst ev
  cases r1 with
  | cons r rr =>
    cases rr
    cases r
    obtain ⟨its, rv, tp, _⟩ := I1.tuple (.inl (.of hq))
    refine enum_call1 (begins_tuple a its.toArray) tp fun h' he hit hsz hk => wpAny_pyIter_enum he ?_
    have J : Inv X pins σ H1 { s1 with heap := h' } := I1.kept (t' := s1.toks) hk
    refine ⟨s1.heap.objs.size + 1, [s1.heap.objs.size + 1, s1.heap.objs.size], _, _, H1, rfl, J, turn_enumT a (s1.heap.objs.size + 1) s1.heap.objs.size xs, ⟨⟨.none, he⟩, ⟨_, hit, rfl, rfl⟩, Nat.succ_ne_self _⟩, fun b hb => ?_, q⟩
    have le : s1.heap.objs.size ≤ b := by
      rcases (show b = s1.heap.objs.size + 1 ∨ b = s1.heap.objs.size by simpa using hb) with m | m
      · rw [m]; exact Nat.le_succ _
      · rw [m]; exact Nat.le_refl _
    exact I1.fpOk le (I1.hok.fresh le)
section
variable {T : Tb} {X : Cx} {W : WX}
def enumP (ds : List P) : List P := ds.mapIdx fun i d => .tup [.int i, d]
def iEnumT (a : MA) : MI := fun S h => bnd (a S h) fun vs h1 => match vs with
  | [.p (.tup ds)] => ret (.d (enumP ds)) h1
  | _ => none
theorem sim_iEnumT {e : Expr} {m : MA} {p pos tpos : Pos} {elts : List Expr} {kk : Nat} (hm : X.mg "enumerate" = none) (ha : SimA T X W [e] m) (hg : Gl X "enumerate" := by rfl) (hs : starEach [e] X.env = [(false, eval e X.env)] := by rfl) :
    SimI T X W (.Tuple elts kk tpos) (.Call (.Name "enumerate" p) [e] [] pos) (iEnumT m) := by
  refine PI.weak (pi_enumT hg hm ha hs) fun σ H Q ⟨S, M, h, sr, hr, p⟩ => trA_then sr hr p fun vs h1 M1 H1 xs e1 sr1 hr1 r1 p1 => ?_
  split at p1
  · cases r1 with
    | cons r1 r2 =>
      cases r2
      cases r1 with
      | p r1 =>
        cases r1 with
        | tup hl ra =>
          rename_i ds a ys
          refine ⟨a, ys, rfl, hl.1, p1.ret .refl hr1 (ItSim.of fun i M' H' e => ⟨fun d hd => ?_, fun hi => ?_⟩)⟩
          · have hl' := hl.extB e
            have hlt : i < ds.length := by
              have q := (List.getElem?_eq_some_iff.mp hd).1
              simpa [enumP] using q
            have hd' : ds[i]? = some ds[i] := List.getElem?_eq_getElem hlt
            obtain ⟨x, hx, rx⟩ := ra.get hd'
            have ed : d = .tup [.int i, ds[i]] := by
              unfold enumP at hd
              rw [List.getElem?_mapIdx, hd'] at hd
              exact (Option.some.inj hd).symm
            subst ed
            refine ⟨⟨hl'.1, by rw [← ra.length]; exact hlt⟩, fun y H'' h hr q => ?_⟩
            obtain ⟨t, x', rfl, ht, rfl, hx'⟩ := q
            have ex : x' = x := Option.some.inj (hx'.symm.trans hx)
            subst ex
            refine ⟨.fresh ht, hr.fresh ht, ?_⟩
            have z := new_tup hr ht (ds := [.int (i : Int), ds[i]]) (xs := [.int (i : Int), x']) (.cons (.int _) (.cons (rx.extB e) .nil))
            cases z with | p z => exact z
          · exact ⟨(hl.extB e).1, by rw [← ra.length]; simpa [enumP] using hi⟩
  · exact p1.elim
end
end EV
end T13
section T14
set_option Elab.async false
set_option linter.all false
set_option maxRecDepth 100000
set_option maxHeartbeats 1000000
namespace EV
open PySem PySem.Spec PyProof.Rows L2

/-! ### {k: v for ..} whose keys are tuples -/
section
variable {X : Cx}
/-- the comprehension's store -/
theorem putTup {pins : List (Addr × Obj)} {σ : L2.St} {H : Hp} {s : Shared} {E : Value → Shared → Prop} {D b : Addr} {ks : List Key} {kvs : List (List Key × V)} {z : V} {u : Value} {Q : Unit → Shared → Prop} (room : X.A.units < cLine) (I : Inv X pins σ H s)
    (atD : H D = some (.dT kvs)) (atb : H b = some (.tup (ks.map kV))) (few : kvs.length < sizeLine) (rz : RelV z u) (next : ∀ s', Inv X pins σ (L2.upd H D (.dT (putK kvs ks z))) s' → Q () s') :
    wpAny (model X.prog X.w) X.A (dictSet D (.ref b) u) Q E s := by
  obtain ⟨z0, nsys, xs, rel, dd⟩ := dt_of I.hok atD
  have len := Paired.length rel
  have few' : (putK kvs ks z).length ≤ sizeLine := by
    have q := length_putK kvs ks z
    omega
  refine wpAny_dictSet_heap (hsz := by omega) (knd := tupleKind (mixKind X.prog X.w)) room (key_of I.hok atb) dd fun h2 d2 same => next _ ?_
  obtain ⟨o, es, ep, e1, e2, e3, e4, _, e6⟩ := d2
  have rel2 : KT (L2.upd H D (.dT (putK kvs ks z))) (putK kvs ks z) (storedH xs ks b u) := (rel.put ks atb rz).keeps fun c ys ec => by
    rw [upd_ne (ne_of ec atD (fun q => nomatch q))]; exact ec
  exact d_write I (by rw [atD]; exact True.intro) same ⟨o, e1⟩ ⟨few', nsys, _, rel2, o, es, ep, e1, e2, e3, e4, e6⟩
/-- what is told: Wn i stands ahead of the i-th turn, n turns at the most -/
def tDcT (wi : TI) (g : TG) (tt : TT) (tk tv : TE) (vs : List Nat) : TE := fun σ H Q => wi σ H fun J H1 => ∀ D, H1 D = none → ∃ (Wn : Nat → Hp → Prop) (n : Nat), Wn 0 (L2.upd H1 D (.dT [])) ∧ ∀ i H', Wn i H' →
  (J.stop i H' ∧ Q (.ref D) H') ∨ (i < n ∧ J.go i H' ∧ ∀ x H2, J.yld i H' x H2 → g x (L2.wipe σ vs) H2 fun σ3 H3 => L2.wipe σ3 vs = L2.wipe σ vs ∧ tt σ3 H3 fun c H4 =>
    if c = true then tk σ3 H4 fun y H5 => tv σ3 H5 fun z H6 => ∃ kvs ks b, y = .ref b ∧ H6 D = some (.dT kvs) ∧ H6 b = some (.tup (ks.map kV)) ∧ kvs.length < sizeLine ∧ Wn (i + 1) (L2.upd H6 D (.dT (putK kvs ks z))) else Wn (i + 1) H4)
theorem pe_dcT {key val tg iter : Expr} {ifs : List Expr} {sco : Scope} {ow : List (Str × Nat)} {pos : Pos} {wi : TI} {g : TG} {tt : TT} {tk tv : TE} (room : X.A.units < cLine) (calm : X.calm = true) (nd : X.N.Nodup) (hi : PI X tg iter wi) (bo : BlkOk X.N X.env.scope sco ow)
    (pg : ∀ (s : Shared) (H : Hp) (C : Addr) (cl : List (Str × Addr)) (fp : List Addr), PG (X.blk s H sco (compEnvC sco cl C X.env) fp) tg g)
    (pt : ∀ (s : Shared) (H : Hp) (C : Addr) (cl : List (Str × Addr)) (fp : List Addr), PTs (X.blk s H sco (compEnvC sco cl C X.env) fp) ifs tt)
    (pk : ∀ (s : Shared) (H : Hp) (C : Addr) (cl : List (Str × Addr)) (fp : List Addr), PE (X.blk s H sco (compEnvC sco cl C X.env) fp) key tk)
    (pv : ∀ (s : Shared) (H : Hp) (C : Addr) (cl : List (Str × Addr)) (fp : List Addr), PE (X.blk s H sco (compEnvC sco cl C X.env) fp) val tv) (hs : ∀ x, foldedSetIterable iter X.env x = pure x := by intro _; rfl) :
    PE X (.DictComp key val [⟨tg, iter, ifs, 0⟩] sco pos) (tDcT wi g tt tk tv (ow.map (·.2))) := by
  refine ⟨fun pins s σ H Q I told => ?_⟩
  rw [arm_eval_DictComp]
  have frees : ∀ y ∈ sco.names, y.2 = .free → ∃ c, X.env.cells.lookup y.1 = some c := fun y hy e => (bo.free y hy e).elim (fun q => I.ok.has _ (.inl q)) fun q => I.ok.has _ (.inr q)
  refine wpAny_comprehension_free (use := none) rfl hs (closure_ok frees) bo.kind (fun y hy e => by rw [bo.uniq y hy, e]) (thn (hi.run pins s σ H _ I told) fun xv s1 hx => thn hx fun itv s2 h2 => ?_)
  obtain ⟨it, fp, tn, J, H2, rfl, I2, tu, st2, out2, told2⟩ := h2
  refine wpAny_newObj_type (newEnv_comp ?_)
  generalize eD : s2.heap.objs.size = D
  have freeD : H2 D = none := I2.hok.fresh (Nat.le_of_eq eD)
  obtain ⟨Wn, n, first, turns⟩ := told2 D freeD
  -- the dict is laid
  obtain ⟨sA, eA⟩ : ∃ sA : Shared, sA = { s2 with heap := s2.heap.push { cls := .type "dict", data := .dict #[] } } := ⟨_, rfl⟩
  have hA : sA.heap = s2.heap.push { cls := .type "dict", data := .dict #[] } := by rw [eA]
  have IA : Inv X pins σ (L2.upd H2 D (.dT [])) sA := by
    rw [eA]
    exact I2.laid (t' := s2.toks) (fun b o e => Heap.get?_push_of_some _ e) (Nat.le_of_eq eD) (by rw [← eD]; exact dt_empty s2.heap I2.big)
  have lt2 : ∀ b ∈ fp, b < s2.heap.objs.size := fun b hb => (tu.obj _ _ st2 b hb).elim fun o e => Heap.lt_size e.1
  have outA : ∀ b ∈ fp, FpOk X pins (L2.upd H2 D (.dT [])) b ∧ b < sA.heap.objs.size := fun b hb => by
    have l := lt2 b hb
    refine ⟨⟨?_, (out2 b hb).2⟩, by rw [hA, Heap.size_push]; exact Nat.lt_succ_of_lt l⟩
    rw [upd_ne (by rw [← eD]; exact Nat.ne_of_lt l)]
    exact (out2 b hb).1
  have noneA : ∀ b ∈ fp, (L2.upd H2 D (.dT [])) b = none := fun b hb => (outA b hb).1.1
  have stA : tn 0 sA.heap := tu.keep _ _ _ st2 fun b _ o e => by rw [hA]; exact Heap.get?_push_of_some _ e
  have IB := block_start IA bo nd outA
  obtain ⟨cl, ecl⟩ : ∃ cl, cl = cellsFrom (sA.heap.objs.size + 1) sco.names (cloFrom X.env.cells sco.names []) := ⟨_, rfl⟩
  have Pg := pg sA (L2.upd H2 D (.dT [])) sA.heap.objs.size cl fp
  have Pt := pt sA (L2.upd H2 D (.dT [])) sA.heap.objs.size cl fp
  have Pk := pk sA (L2.upd H2 D (.dT [])) sA.heap.objs.size cl fp
  have Pv := pv sA (L2.upd H2 D (.dT [])) sA.heap.objs.size cl fp
  obtain ⟨sB, eB⟩ : ∃ sB : Shared, sB = { sA with heap := pushCells (sA.heap.push { cls := .type "dict", data := .dict #[] }) sco.names } := ⟨_, rfl⟩
  rw [← ecl, ← eB] at IB
  rw [← eA, ← ecl, ← eB]
  have stB : tn 0 sB.heap := tu.keep _ _ _ stA fun b _ o e => by rw [eB]; exact pushCells_keeps _ _ _ _ (Heap.get?_push_of_some _ e)
  generalize ece : compEnvC sco cl sA.heap.objs.size X.env = ce at IB Pg Pt Pk Pv
  have locs : ce.locals = sA.heap.objs.size := by rw [← ece]; rfl
  generalize eHA : L2.upd H2 D (.dT []) = HA at IA IB Pg Pt Pk Pv first noneA outA
  have outB : ∀ {σ' : L2.St} {H' : Hp} {s' : Shared}, Inv (X.blk sA HA sco ce fp) [] σ' H' s' → (∀ b ∈ fp, H' b = none) → ∀ b ∈ fp, FpOk (X.blk sA HA sco ce fp) [] H' b := fun {σ' H' s'} I' hn b hb =>
    ⟨hn b hb, (I'.ok.exf b hb).1, I'.ok.exfs b hb, .inl hb, fun x c e => (I'.ok.exf b hb).2 x c e, fun p hp => absurd (show p ∈ ([] : List (Addr × Obj)) ++ [] from hp) (by simp)⟩
  refine (?_ : codeAny _ _ (.compStart (.DictComp key val [⟨tg, iter, ifs, 0⟩] sco pos) 0 (.ref it) (.ref D) (compEnvC sco cl sA.heap.objs.size X.env)) (compPost (model X.prog X.w) X.A X.xe none (EP X pins σ Q) (.ref D) sA.heap.objs.size) sB)
  rw [ece]
  refine (fun loop => codeAny_compStart_dict loop (tu.self X.A 0 _ _ _ stB loop)) ?_
  refine compLoop_anyD (fun m s' => ∃ i H', m = n - i ∧ Inv (X.blk sA HA sco ce fp) [] (L2.wipe σ (ow.map (·.2))) H' s' ∧ tn i s'.heap ∧ (∀ b ∈ fp, H' b = none) ∧ Wn i H') ?_ (n - 0) ⟨0, HA, rfl, IB, stB, noneA, first⟩
  rintro m s5 ⟨i, H5, rfl, I5, st5, no5, w5⟩
  rcases turns i H5 w5 with ⟨stop, last⟩ | ⟨lt, go, turn⟩
  · -- the walk is at its end
    refine thnF (tu.done (X.blk sA HA sco ce fp) rfl rfl rfl calm i [] s5 _ H5 (fun _ _ => False) I5 (outB I5 no5) st5 stop) fun r s6 ⟨hr, I6⟩ => ?_
    subst hr
    have I7 : Inv X pins σ H5 s6 := IA.call' (ch := fp) I6.os I6.base I6.hok I6.bare fun b hb => ⟨(outA b hb).1.2.2.2.1, (outA b hb).1.2.1, (outA b hb).1.2.2.2.2.1, (outA b hb).1.2.2.2.2.2⟩
    have noC : H5 sA.heap.objs.size = none := by
      have q : H5 ce.locals = none := I6.free
      rwa [locs] at q
    obtain ⟨mm, ns, _⟩ := I6.loc
    have ns : s6.heap.Ns ce.locals mm := ns
    rw [locs] at ns
    obtain ⟨f0, f1, f2, f3, f4, f5⟩ := IA.fpOk (Nat.le_refl _) noC
    exact ⟨mm, ns, fun h8 sb => ⟨.ref D, H5, I7.turned (t' := s6.toks) (fun b o hb e => (sb.2 b hb).trans e) f0 f1 f3 f4 f5, rfl, last⟩⟩
  · -- a turn
    refine thnF (tu.item (X.blk sA HA sco ce fp) rfl rfl rfl calm i [] s5 _ H5 (fun _ _ => False) I5 (outB I5 no5) st5 go) fun r s6 ⟨u, hr, h6⟩ => ?_
    subst hr
    refine thnF h6 fun _ s7 ⟨x, H7, I7, r7, y7, st7, no7⟩ => ?_
    refine thnF (Pg.run _ s7 _ H7 x u _ (I7.pinned (outB I7 no7) (tu.obj _ _ st7)) r7 (turn x H7 y7)) fun _ s8 ⟨σ8, H8, I8, w8, t8⟩ => ?_
    have again : ∀ {s' : Shared} {H' : Hp}, Inv (X.blk sA HA sco ce fp) ([] ++ pinsAt fp s7.heap) σ8 H' s' → Wn (i + 1) H' → ∃ m, m < n - i ∧ ∃ i' H', m = n - i' ∧ Inv (X.blk sA HA sco ce fp) [] (L2.wipe σ (ow.map (·.2))) H' s' ∧ tn i' s'.heap ∧ (∀ b ∈ fp, H' b = none) ∧ Wn i' H' := fun {s' H'} I' w' => by
      have pin : ∀ b ∈ fp, ∀ o, s7.heap.get? b = some o → s'.heap.get? b = some o ∧ H' b = none := fun b hb o e => by
        obtain ⟨q1, q2, _⟩ := I'.pin (b, o) (List.mem_append_right _ (List.mem_append_right _ (mem_pinsAt hb e)))
        exact ⟨q1, q2⟩
      have len : (L2.wipe σ (ow.map (·.2))).length = σ8.length := by rw [← w8, wipe_length]
      refine ⟨n - (i + 1), by omega, i + 1, H', rfl, (I'.unpinned (pins := [])).weak len (fun j v e => ?_), tu.keep _ _ _ st7 fun b hb o e => (pin b hb o e).1, fun b hb => ?_, w'⟩
      · rw [← w8] at e; exact (wipe_some e).1
      · obtain ⟨o, e, _⟩ := tu.obj _ _ st7 b hb
        exact (pin b hb o e).2
    refine thnF (Pt.run _ s8 σ8 H8 _ I8 t8) fun c s9 ⟨H9, I9, t9⟩ => ?_
    cases c with
    | false =>
      simp only [Bool.false_eq_true, if_false] at t9 ⊢
      exact again I9 t9
    | true =>
      simp only [if_true] at t9 ⊢
      refine thnF (Pk.run _ s9 σ8 H9 _ I9 t9) fun kv s10 ⟨y, H10, I10, r10, t10⟩ => ?_
      refine thnF (Pv.run _ s10 σ8 H10 _ I10 t10) fun vv s11 ⟨z, H11, I11, r11, kvs, ks, b, ey, atD, atb, few, w'⟩ => ?_
      subst ey
      cases (show kv = Value.ref b from r10)
      exact putTup (X := X.blk sA HA sco ce fp) room I11 atD atb few r11 fun s12 I12 => again I12 w'
end
end EV
end T14
section T15
set_option Elab.async false
set_option linter.all false
set_option maxRecDepth 100000
set_option maxHeartbeats 1000000
namespace EV
open PySem PySem.Spec PyProof.Rows L2

abbrev AL := List (List Int × P)
def putP (acc : AL) (k : List Int) (d : P) : AL := if (acc.any fun kv => decide (kv.1 = k)) = true then acc.map (fun kv => if kv.1 = k then (kv.1, d) else kv) else acc ++ [(k, d)]
def dctL (g : MG) (tt : MT) (tk tv : ME) (S : Sl) (I : Itd) : Nat → Nat → AL → Hs → Rs AL
  | 0, i, acc, h => match I.at i h with
    | some none => ret acc h
    | _ => none
  | n + 1, i, acc, h => match I.at i h with
    | none => none
    | some none => ret acc h
    | some (some d) => match g d S with
      | none => none
      | some S1 => bnd (noErr (tt S1 h)) fun b h1 => if b = true then bnd (noErr (tk S1 h1)) fun y h2 => bnd (noErr (tv S1 h2)) fun z h3 => (match y, z with
          | .p dy, .p dz => match tupI1 dy with
            | some k => dctL g tt tk tv S I n (i + 1) (putP acc k dz) h3
            | none => none
          | _, _ => none)
        else dctL g tt tk tv S I n (i + 1) acc h1
def mDctT (mi : MI) (g : MG) (tt : MT) (tk tv : ME) (vs : List Nat) : ME := fun S h => bnd (mi S h) fun I h1 => if I.len h1 ≤ 16777215 then bnd (dctL g tt tk tv (wipeS S vs) I (I.len h1) 0 [] h1) fun acc h2 => ret (.p (.dct (acc.map (·.1)) (acc.map (·.2)))) h2 else none
def kyl (l : List Int) : List Key := l.map Sum.inl
theorem kyl_inj : ∀ {a b : List Int}, kyl a = kyl b → a = b
  | [], [], _ => rfl
  | [], _ :: _, e => by simp [kyl] at e
  | _ :: _, [], e => by simp [kyl] at e
  | i :: a, j :: b, e => by
    simp only [kyl, List.map_cons, List.cons.injEq] at e
    rw [Sum.inl.inj e.1, kyl_inj (show kyl a = kyl b from e.2)]
/-- a table and the dict that stands for it -/
structure AlR (T : Tb) (K : PySem.W.Frag) (M : Trk) (H : Hp) (acc : AL) (kvs : List (List Key × V)) : Prop where
  ks : kvs.map (·.1) = (acc.map (·.1)).map kyl
  vs : RpA T K M H (acc.map (·.2)) (kvs.map (·.2))
section
variable {T : Tb} {K : PySem.W.Frag} {M M' : Trk} {H H' : Hp}
theorem AlR.len {acc : AL} {kvs : List (List Key × V)} (r : AlR T K M H acc kvs) : kvs.length = acc.length := by
  have q := congrArg List.length r.ks
  simpa using q
theorem AlR.cons_inv {acc : AL} {kvs : List (List Key × V)} {k : List Int} {d : P} (r : AlR T K M H ((k, d) :: acc) kvs) : ∃ v kvs', kvs = (kyl k, v) :: kvs' ∧ Rp T K M H d v ∧ AlR T K M H acc kvs' := by
  obtain ⟨ks, vs⟩ := r
  cases kvs with
  | nil => simp at ks
  | cons p kvs =>
    obtain ⟨a, v⟩ := p
    simp only [List.map_cons, List.cons.injEq] at ks
    cases vs with
    | cons h vs => exact ⟨v, kvs, by rw [ks.1], h, ks.2, vs⟩
theorem AlR.mk_cons {acc : AL} {kvs : List (List Key × V)} {k : List Int} {d : P} {v : V} (h : Rp T K M H d v) (r : AlR T K M H acc kvs) : AlR T K M H ((k, d) :: acc) ((kyl k, v) :: kvs) :=
  ⟨by simp [r.ks], .cons h r.vs⟩
theorem AlR.any {k : List Int} : ∀ {acc : AL} {kvs : List (List Key × V)}, AlR T K M H acc kvs → (kvs.any fun kv => decide (kv.1 = kyl k)) = acc.any fun kv => decide (kv.1 = k)
  | [], kvs, r => by
    have := r.len
    cases kvs with
    | nil => rfl
    | cons _ _ => simp at this
  | (a, d) :: acc, kvs, r => by
    obtain ⟨v, kvs', rfl, _, r'⟩ := r.cons_inv
    simp only [List.any_cons]
    rw [AlR.any r']
    congr 1
    by_cases e : a = k
    · simp [e]
    · have e' : ¬ kyl a = kyl k := fun z => e (kyl_inj z)
      simp [e, e']
theorem AlR.repl {k : List Int} {d : P} {v : V} (hd : Rp T K M H d v) : ∀ {acc : AL} {kvs : List (List Key × V)}, AlR T K M H acc kvs → AlR T K M H (acc.map fun kv => if kv.1 = k then (kv.1, d) else kv) (kvs.map fun kv => if kv.1 = kyl k then (kv.1, v) else kv)
  | [], kvs, r => by
    have := r.len
    cases kvs with
    | nil => exact ⟨rfl, .nil⟩
    | cons _ _ => simp at this
  | (a, x) :: acc, kvs, r => by
    obtain ⟨y, kvs', rfl, hx, r'⟩ := r.cons_inv
    have ih := AlR.repl (k := k) hd r'
    by_cases e : a = k
    · subst e
      simp only [List.map_cons, if_true]
      exact ih.mk_cons hd
    · have e' : kyl a ≠ kyl k := fun z => e (kyl_inj z)
      simp only [List.map_cons, if_neg e, if_neg e']
      exact ih.mk_cons hx
theorem AlR.put {acc : AL} {kvs : List (List Key × V)} {k : List Int} {d : P} {v : V} (r : AlR T K M H acc kvs) (hd : Rp T K M H d v) : AlR T K M H (putP acc k d) (putK kvs (kyl k) v) := by
  unfold putP putK
  rw [r.any]
  by_cases c : (acc.any fun kv => decide (kv.1 = k)) = true
  · rw [if_pos c, if_pos c]
    exact r.repl hd
  · rw [if_neg c, if_neg c]
    refine ⟨by simp [r.ks], ?_⟩
    rw [List.map_append, List.map_append]
    exact r.vs.append (.cons hd .nil)
theorem AlR.ext {acc : AL} {kvs : List (List Key × V)} (r : AlR T K M H acc kvs) (e : Ext M H M' H') : AlR T K M' H' acc kvs := ⟨r.ks, r.vs.ext e⟩
theorem putP_len (acc : AL) (k : List Int) (d : P) : (putP acc k d).length ≤ acc.length + 1 := by
  unfold putP
  split <;> simp
/-- the dict at D, barred while it is made -/
structure DctI (T : Tb) (K : PySem.W.Frag) (M1 : Trk) (H1 : Hp) (D : Addr) (M : Trk) (H : Hp) (h : Hs) (acc : AL) (kvs : List (List Key × V)) : Prop where
  ext : Ext M1 H1 M H
  hr : HR T K M H h
  bar : D ∈ M.no
  at' : H D = some (.dT kvs)
  out : D ∉ M.ch
  r : AlR T K M H acc kvs
theorem DctI.step {M1 : Trk} {H1 : Hp} {D : Addr} {h h' : Hs} {acc : AL} {kvs : List (List Key × V)} (c : DctI T K M1 H1 D M H h acc kvs) (e : Ext M H M' H') (hr : HR T K M' H' h') : DctI T K M1 H1 D M' H' h' acc kvs :=
  ⟨c.ext.trans e, hr, e.nos D c.bar, e.keep D _ c.at' c.out, e.outT c.at' c.out, c.r.ext e⟩
theorem DctI.put {M1 : Trk} {H1 : Hp} {D : Addr} {h : Hs} {acc : AL} {kvs : List (List Key × V)} {k : List Int} {d : P} {y : V} (c : DctI T K M1 H1 D M H h acc kvs) (hD : H1 D = none) (r : Rp T K M H d y) :
    DctI T K M1 H1 D M (L2.upd H D (.dT (putK kvs (kyl k) y))) h (putP acc k d) (putK kvs (kyl k) y) := by
  have z := c.r.put (k := k) r
  refine ⟨⟨c.ext.pre, c.ext.nos, c.ext.new, fun a o e n => ?_, fun a e => c.ext.live a (live_upd e), c.ext.mms, c.ext.mnew⟩, c.hr.writeN c.bar c.out, c.bar, upd_same, c.out, z.ks, z.vs.barred c.bar⟩
  rw [upd_ne (ne_of_none e hD)]
  exact c.ext.keep a o e n
theorem DctI.done {M1 : Trk} {H1 : Hp} {D : Addr} {h : Hs} {acc : AL} {kvs : List (List Key × V)} (c : DctI T K M1 H1 D M H h acc kvs) (nD : D ∉ M1.no) :
    Ext M1 H1 (unbar M D c.out) H ∧ HR T K (unbar M D c.out) H h ∧ RV T K (unbar M D c.out) H (.p (.dct (acc.map (·.1)) (acc.map (·.2)))) (.ref D) := by
  have lessen : ∀ a ∈ (unbar M D c.out).no, a ∈ M.no := fun a ha => (mem_unbar.mp ha).1
  exact ⟨⟨c.ext.pre, fun a ha => mem_unbar.mpr ⟨c.ext.nos a ha, fun z => nD (by rw [← z]; exact ha)⟩, fun a h1 h2 => c.ext.new a (lessen a h1) h2, c.ext.keep, c.ext.live, c.ext.mms, c.ext.mnew⟩,
    c.hr.less rfl rfl lessen, .p (.dct c.at' (fun z => (mem_unbar.mp z).2 rfl) c.r.ks (c.r.vs.less lessen fun _ h => h))⟩
end
section
variable {T : Tb} {X : Cx} {W : WX}
theorem dct_reads {mi : MI} {g : MG} {tt : MT} {tk tv : ME} {js vs : List Nat} (hv : ∀ j ∈ js, j ∈ vs) {σ : L2.St} {H : Hp} {Q : VK} {K : PySem.W.Frag} (q : tr T K W (mDctT mi g tt tk tv vs) σ H Q) :
    tDcT (trI T K W mi) (trG T K js g) (trT T K W0 tt) (tr T K W0 tk) (tr T K W0 tv) vs σ H Q := by
  obtain ⟨S, M, h, sr, hr, p⟩ := q
  refine ⟨S, M, h, sr, hr, p.bnd fun I h1 M1 H1 J e1 hr1 r1 p1 => fun D hD => ?_⟩
  split at p1
  · rename_i hz
    have nD : D ∉ M1.no := hr1.none_out hD
    have sr1 := sr.ext e1
    let Rest : Nat → Nat → Hs → AL → Prop := fun m i h' acc => post T K (RV T K) M1 H1 (erAt T W σ) Q (bnd (dctL g tt tk tv (wipeS S vs) I m i acc h') fun acc h2 => ret (.p (.dct (acc.map (·.1)) (acc.map (·.2)))) h2)
    refine ⟨fun i H' => ∃ m M' h' acc kvs, i + m = I.len h1 ∧ acc.length ≤ i ∧ DctI T K M1 H1 D M' H' h' acc kvs ∧ Rest m i h' acc, I.len h1,
      ⟨I.len h1, M1.bar D, h1, [], [], Nat.zero_add _, Nat.le_refl _, ⟨.bar hD, hr1.bar hD, List.mem_append_right _ (by simp), upd_same, hr1.none_out' hD, rfl, .nil⟩, by simpa [Rest] using p1⟩, ?_⟩
    rintro i H2 ⟨m, M2, h2, acc, kvs, hm, hacc, c2, p2⟩
    obtain ⟨q1, q2⟩ := r1 i M2 H2 h2 c2.ext.b c2.hr
    have p2 : post T K (RV T K) M1 H1 (erAt T W σ) Q (bnd (dctL g tt tk tv (wipeS S vs) I m i acc h2) fun acc h2 => ret (.p (.dct (acc.map (·.1)) (acc.map (·.2)))) h2) := p2
    cases hat : I.at i h2 with
    | none => cases m <;> (simp only [dctL, hat] at p2; exact p2.elim)
    | some o =>
      cases o with
      | none =>
        refine .inl ⟨q2 hat, ?_⟩
        have p3 : post T K (RV T K) M1 H1 (erAt T W σ) Q (ret (.p (.dct (acc.map (·.1)) (acc.map (·.2)))) h2) := by
          cases m <;> simpa [dctL, hat, bnd, ret] using p2
        obtain ⟨a1, a2, a3⟩ := c2.done nD
        exact p3.ret a1 a2 a3
      | some d =>
        cases m with
        | zero => simp only [dctL, hat] at p2; exact p2.elim
        | succ m =>
          refine .inr ⟨by omega, ?_⟩
          obtain ⟨go, yl⟩ := q1 d hat
          refine ⟨go, fun x H' hy => ?_⟩
          obtain ⟨e3, hr3, rx⟩ := yl x H' hy
          simp only [dctL, hat] at p2
          cases eg : g d (wipeS S vs) with
          | none => rw [eg] at p2; exact p2.elim
          | some S3 =>
            rw [eg] at p2
            dsimp only at p2
            have c3 := c2.step e3 hr3
            refine ⟨wipeS S vs, M2, h2, d, S3, (sr1.ext c3.ext).wipe vs, hr3, rx, eg, fun σ3 sr3 w3 => ⟨by rw [w3 vs hv, wipe_wipe], S3, M2, h2, sr3, hr3, ?_⟩⟩
            rw [bnd_bnd] at p2
            refine post_bndE p2 fun b h3 M3 H3 x3 e4 hr4 r4 p5 => ?_
            cases (r4 : b = x3)
            have c4 := c3.step e4 hr4
            cases b with
            | false => exact ⟨m, M3, h3, acc, kvs, by omega, by omega, c4, by simpa using p5⟩
            | true =>
              refine ⟨S3, M3, h3, sr3.ext e4, hr4, ?_⟩
              simp only [if_true] at p5
              rw [bnd_bnd] at p5
              refine post_bndE p5 fun y h4 M4 H4 yv e5 hr5 r5 p6 => ?_
              have c5 := c4.step e5 hr5
              refine ⟨S3, M4, h4, (sr3.ext e4).ext e5, hr5, ?_⟩
              rw [bnd_bnd] at p6
              refine post_bndE p6 fun z h5 M5 H5 zv e6 hr6 r6 p7 => ?_
              have c6 := c5.step e6 hr6
              cases r5 with
              | ref _ => exact p7.elim
              | p ry =>
                cases r6 with
                | ref _ => exact p7.elim
                | p rz =>
                  rename_i dy dz
                  dsimp only at p7
                  cases ek : tupI1 dy with
                  | none => rw [ek] at p7; exact p7.elim
                  | some k =>
                    rw [ek] at p7
                    have em := tupI1_eq ek
                    subst em
                    have ry2 := ry.ext e6
                    cases ry2 with
                    | tup hl ra =>
                      rename_i b ys
                      have eys := RpA.ints ra
                      subst eys
                      have lk := c6.r.len
                      have kv_eq : (kyl k).map kV = k.map V.int := by simp [kyl, kV]
                      refine ⟨kvs, kyl k, b, rfl, c6.at', by rw [kv_eq]; exact hl.1, lt_line (by omega), m, M5, h5, putP acc k dz, _, by omega, ?_, c6.put hD rz, p7⟩
                      have := putP_len acc k dz
                      omega
  · exact p1.elim
theorem sim_dcT {k : Nat} {key val tg iter : Expr} {ifs : List Expr} {scope : Scope} (own : List (Str × Nat)) {pos : Pos} {mi : MI} {js : List Nat} {g : MG} {tt : MT} {tk tv : ME} (hr : Room k X.A) (hc : X.calm = true) (hN : X.N.Nodup) (hi : SimI T X W tg iter mi) (ok : BlkOk X.N X.env.scope scope own)
    (hg : ∀ (s : Shared) (H : Hp) (C : Addr) (cl : List (Str × Addr)) (fp : List Addr), SimG T (X.blk s H scope (compEnvC scope cl C X.env) fp) tg js g)
    (ht : ∀ (s : Shared) (H : Hp) (C : Addr) (cl : List (Str × Addr)) (fp : List Addr), SimTs T (X.blk s H scope (compEnvC scope cl C X.env) fp) W0 ifs tt)
    (hk : ∀ (s : Shared) (H : Hp) (C : Addr) (cl : List (Str × Addr)) (fp : List Addr), SimE T (X.blk s H scope (compEnvC scope cl C X.env) fp) W0 key tk)
    (he : ∀ (s : Shared) (H : Hp) (C : Addr) (cl : List (Str × Addr)) (fp : List Addr), SimE T (X.blk s H scope (compEnvC scope cl C X.env) fp) W0 val tv) (hv : ∀ j ∈ js, j ∈ own.map (·.2) := by decide)
    (hs : ∀ x, foldedSetIterable iter X.env x = pure x := by intro _; rfl) : SimE T X W (.DictComp key val [⟨tg, iter, ifs, 0⟩] scope pos) (mDctT mi g tt tk tv (own.map (·.2))) :=
  PE.weak (pe_dcT hr.r.units0 hc hN hi ok hg ht hk he hs) fun _ _ _ q => dct_reads hv q
/-! ### d.get(key, other), key in d -/
def dctV (v : Vl) : Option (List (List Int) × List P) := match v with
  | .p (.dct ks vs) => some (ks, vs)
  | _ => none
def findP : List (List Int) → List P → List Int → Option P
  | k :: ks, v :: vs, x => if k = x then some v else findP ks vs x
  | _, _, _ => none
theorem findP_val {K : PySem.W.Frag} {M : Trk} {H : Hp} : ∀ {ks : List (List Int)} {vs : List P} {kvs : List (List Key × V)} {x : List Int}, kvs.map (·.1) = ks.map (fun l => l.map Sum.inl) → RpA T K M H vs (kvs.map (·.2)) →
    (findP ks vs x = none ∧ valV kvs (kyl x) = none) ∨ ∃ d v, findP ks vs x = some d ∧ valV kvs (kyl x) = some v ∧ Rp T K M H d v
  | [], vs, kvs, x, e, r => by
    cases kvs with
    | nil => exact .inl ⟨rfl, rfl⟩
    | cons _ _ => simp at e
  | k :: ks, vs, kvs, x, e, r => by
    cases kvs with
    | nil => simp at e
    | cons p kvs =>
      obtain ⟨a, v⟩ := p
      simp only [List.map_cons, List.cons.injEq] at e
      cases r with
      | cons h r =>
        rename_i d vs
        have ea : a = kyl k := e.1
        by_cases c : k = x
        · subst c
          exact .inr ⟨d, v, by simp [findP], valV_pos ea, h⟩
        · have c' : ¬ a = kyl x := fun z => c (kyl_inj (ea.symm.trans z))
          have q := findP_val (x := x) e.2 r
          rw [valV_neg (p := (a, v)) c', show findP (k :: ks) (d :: vs) x = findP ks vs x by simp [findP, c]]
          exact q
end
end EV
end T15
section T16
set_option Elab.async false
set_option linter.all false
set_option maxRecDepth 100000
set_option maxHeartbeats 3200000
namespace EV
open PySem PySem.Spec PyProof.Rows L2

/-! ### len(set(t)), t a tuple of tuples of ints -/
section
variable {P : Program} {w : World} {A : Around} {E : Value → Shared → Prop} {s : Shared}
/-- a new set as it is laid -/
abbrev set0 (w : World) : Obj := { cls := .type "set", dict := none, data := .set #[] 0 (.fresh 0 0 (!w.params.followText "set-order")) }
theorem sub_tup_set : isSubtype (.type "tuple") (.type "set") = pure false := by first | rfl | decide +kernel
theorem sub_tup_fset : isSubtype (.type "tuple") (.type "frozenset") = pure false := by first | rfl | decide +kernel
theorem set_of_tup {t : Addr} {items : Array Value} (ks : List (Addr × List Int)) {Q : Value → Shared → Prop} (hh : A.handled = none) (ht : s.heap.IsTuple t items) (eq : items.toList = ks.map fun p => Value.ref p.1)
    (hk : ∀ p ∈ ks, IsT P w s.heap p.2 p.1) (few : ks.length < 64) (room : A.units + 3 < cLine)
    (next : ∀ (h' : Heap) (tk : Nat) L es ep tb, SetTR P w h' s.heap.objs.size L es ep tb → Got ks ks.length L → (∀ b o, s.heap.get? b = some o → h'.get? b = some o) → Q (.ref s.heap.objs.size) { s with heap := h', toks := tk }) :
    wpAny (model P w) A (call (.type "set") [.ref t]) Q E s := by
  have size : items.size = ks.length := by
    have q := congrArg List.length eq
    simpa using q
  have sub1 := F.called_set.sub
  have made := F.called_set.made
  obtain ⟨c, tl, mro⟩ := F.called_set.mro
  refine wpAny_call (codeAny_of_tree ?_)
  show wpAny _ _ (callAny (.type "set") _) _ _ _
  refine wpAny_pure ⟨Code.quiet_builtin _ (by decide +kernel), codeAny_builtin F.entry_type_call ?_⟩
  rw [Around.under_plain (weight_type_call_type "set" [.ref t] []) rfl]
  have tc := F.typeCall_set_1 (.ref t)
  have cc := F.called_set.canCreate
  have nt := F.called_set.notType
  repeat (any_goals (first | assumption | wp_step))
  refine codeAny_mono (code_set_led1 (.ref t) (E := E) (Q₁ := fun obj s₁ => obj = .ref s.heap.objs.size ∧ s₁ = { s with heap := s.heap.push (set0 w) }) ⟨rfl, rfl⟩) fun r s₁ hr => ?_
  match r, hr with
  | .error e, hr => exact hr
  | .ok .next, hr => exact hr.elim
  | .ok .brk, hr => exact hr.elim
  | .ok .cont, hr => exact hr.elim
  | .ok (.ret obj), hr =>
    obtain ⟨rfl, rfl⟩ := hr
    have laid : (s.heap.push (set0 w)).get? s.heap.objs.size = some (set0 w) := Heap.get?_push_size _ rfl
    have isSet : Shared.TypeIs { s with heap := s.heap.push (set0 w) } (.ref s.heap.objs.size) "set" := ⟨_, laid, rfl⟩
    have look := F.called_set.init.lookup
    have bind := F.called_set.init.bind (.ref s.heap.objs.size)
    repeat (any_goals (first | assumption | wp_step))
    refine codeAny_mono (codeAny_call_builtin (R := wants (fun r s₂ => r = .none ∧ ∃ h' tk L es ep tb, s₂ = { s with heap := h', toks := tk } ∧ SetTR P w h' s.heap.objs.size L es ep tb ∧ Got ks ks.length L ∧ (∀ b o, s.heap.get? b = some o → h'.get? b = some o)) E)
      F.called_set.init.plain F.entry_set_init (check_set_init_1 isSet ?_)) fun r₂ s₂ hr₂ => ?_
    · obtain ⟨ob, hob, hcl, nl, hdl⟩ := ht
      obtain ⟨oc, od, odt, osl⟩ := ob
      simp only at hcl hdl
      subst hcl; subst hdl
      have hob' : (s.heap.push (set0 w)).get? t = some { cls := .type "tuple", dict := od, data := .seq items nl, slots := osl } := Heap.get?_push_of_some _ hob
      have t1 : (s.heap.push (set0 w)).IsTuple t items := ⟨_, hob', rfl, nl, rfl⟩
      have q1 := sub_tup_set
      have q2 := sub_tup_fset
      have q3 : (Value.type "tuple" == Value.type "dict") = false := by decide
      unfold Builtin.«set.__init__» noKeywords Builtin.Frozenset.updateFrom
      generalize hPI : pyIter = PI
      wp_walk
      subst hPI
      refine wpAny_pyIter_tuple t1 ?_
      refine wpAny_bind (wpAny_runValue ?_)
      have lt : t < s.heap.objs.size := Heap.lt_size hob
      have h3 : A.in1.in1.in1.handled = none := by simp [hh]
      have ne : t ≠ (s.heap.push (set0 w)).objs.size := by
        rw [Heap.size_push]; exact Nat.ne_of_lt (Nat.lt_succ_of_lt lt)
      have nf : s.heap.objs.size ∉ [(s.heap.push (set0 w)).objs.size, t] := by
        rw [Heap.size_push]; simp only [List.mem_cons, List.mem_singleton, List.not_mem_nil, or_false, not_or]
        exact ⟨Nat.ne_of_lt (Nat.lt_succ_self _), Nat.ne_of_gt lt⟩
      have vals : ∀ (i : Nat) (v : Value), items[i]? = some v → ∃ p, ks[i]? = some p ∧ v = .ref p.1 := fun i v hv => by
        have q : items.toList[i]? = some v := by rw [Array.getElem?_toList]; exact hv
        rw [eq, List.getElem?_map] at q
        cases z : ks[i]? with
        | none => rw [z] at q; cases q
        | some p => rw [z] at q; exact ⟨p, rfl, (Option.some.inj q).symm⟩
      have nothing : ∀ b, s.heap.objs.size ≤ b → s.heap.get? b = none := fun b hb => by
        cases q : s.heap.get? b with
        | none => rfl
        | some o => exact absurd (Nat.lt_of_lt_of_le (Heap.lt_size q) hb) (Nat.lt_irrefl _)
      refine set_update_tups ((Walks.tuple h3 _ t ne items).toS) s.heap.objs.size nf ks size few vals s.heap hk (nothing _ (Nat.le_refl _))
        (fun b hb => nothing b (by rw [List.mem_singleton.mp hb, Heap.size_push]; exact Nat.le_succ _)) room (items.size - 0) 0 _ (by omega) (Nat.zero_le _)
        ⟨⟨_, Heap.get?_push_size _ rfl, rfl, rfl⟩, t1.at fun o e => Heap.get?_push_of_some _ e⟩ (fun b o e => Heap.get?_push_of_some _ (Heap.get?_push_of_some _ e)) ⟨[], #[], 0, _, setTR_fresh (Heap.get?_push_of_some _ laid), Got.zero ks⟩ ?_
      intro s' L es ep tb hm R g keep
      obtain ⟨h', g2, d', tk', os'⟩ := s'
      have eg : g2 = s.gens := hm.gens
      have ed : d' = s.drawn := hm.drawn
      have eo : os' = s.os := hm.os
      subst eg; subst ed; subst eo
      show wpAny _ _ _ _ _ _
      refine wpAny_pure ?_
      show wpAny _ _ (PySem.ret Value.none) _ _ _
      rw [size] at g
      exact wpAny_pure ⟨rfl, h', tk', L, es, ep, tb, rfl, R, g, keep⟩
    · match r₂, hr₂ with
      | .error e, hr₂ => exact hr₂
      | .ok .next, hr₂ => exact hr₂.elim
      | .ok .brk, hr₂ => exact hr₂.elim
      | .ok .cont, hr₂ => exact hr₂.elim
      | .ok (.ret r), hr₂ =>
        obtain ⟨rfl, h', tk, L, es, ep, tb, rfl, R, g, keep⟩ := hr₂
        repeat (any_goals (first | assumption | wp_step))
        exact next _ _ _ _ _ _ R g keep
end

/-- how many that differ -/
def dist : List (List Int) → List (List Int)
  | [] => []
  | x :: l => if x ∈ l then dist l else x :: dist l
theorem mem_dist : ∀ {l : List (List Int)} {x : List Int}, x ∈ dist l ↔ x ∈ l
  | [], _ => Iff.rfl
  | y :: l, x => by
    unfold dist
    split
    · rename_i h
      rw [mem_dist]
      exact ⟨fun q => List.mem_cons_of_mem _ q, fun q => (List.mem_cons.mp q).elim (fun z => by rw [z]; exact h) id⟩
    · rw [List.mem_cons, List.mem_cons, mem_dist]
theorem nodup_dist : ∀ l : List (List Int), (dist l).Nodup
  | [] => List.nodup_nil
  | y :: l => by
    unfold dist
    split
    · exact nodup_dist l
    · rename_i h
      exact List.nodup_cons.mpr ⟨fun q => h (mem_dist.mp q), nodup_dist l⟩
theorem nodup_le {α : Type} [DecidableEq α] : ∀ {l m : List α}, l.Nodup → (∀ x ∈ l, x ∈ m) → l.length ≤ m.length
  | [], _, _, _ => Nat.zero_le _
  | x :: l, m, n, h => by
    have n' := List.nodup_cons.mp n
    have q : l.length ≤ (m.erase x).length := nodup_le n'.2 fun y hy => (List.mem_erase_of_ne (fun z => n'.1 (by rw [← z]; exact hy))).mpr (h y (List.mem_cons_of_mem _ hy))
    have mx : x ∈ m := h x List.mem_cons_self
    rw [List.length_erase_of_mem mx] at q
    have pos : 0 < m.length := List.length_pos_of_mem mx
    rw [List.length_cons]
    omega
section
variable {X : Cx}
def tLenSetT (K : PySem.W.Frag) (ta : TE) : TE := fun σ H Q => ta σ H fun x H1 => ∃ (t : Addr) (ks : List (Addr × List Int)), x = V.ref t ∧ SqT K H1 t (ks.map fun p => V.ref p.1) ∧ (∀ p ∈ ks, SqT K H1 p.1 (p.2.map V.int)) ∧ ks.length < 64 ∧ Q (.int (dist (ks.map (·.2))).length) H1
theorem pe_lenSetT {k : Nat} {a : Expr} {ta : TE} {p p2 q pos : Pos} (room : Room k X.A) (calm : X.calm = true) (g1 : Gl X "len") (m1 : X.mg "len" = none) (g2 : Gl X "set") (m2 : X.mg "set" = none) (ha : PE X a ta)
    (na : starEach [a] X.env = (false, eval a X.env) :: starEach [] X.env := by rfl) : PE X (.Call (.Name "len" p) [.Call (.Name "set" p2) [a] [] q] [] pos) (tLenSetT X.K ta) := by
  refine ⟨fun pins s σ H Q I told => Call_ (ld_blt I g1 m1 PySem.boot_len ?_)⟩
  refine PyProof.Rows.callWith_builtin1 (PyProof.Rows.args_cons ?_ rfl) rfl rfl
  refine Call_ (ld_blt I g2 m2 PyProof.Rows.boot_set ?_)
  refine PyProof.Rows.callWith_type1 (PyProof.Rows.args_cons (thn (ha.run pins s σ H _ I told) fun u s1 ⟨x, H1, I1, r1, t, ks, ex, hT, hk, few, fin⟩ => PyProof.Rows.args_nil ?_) na) na rfl
  subst ex
  cases r1
  obtain ⟨its, r, tp, _⟩ := I1.tuple hT
  have un : X.A.units + 3 < cLine := by have := room.units; omega
  refine set_of_tup (P := X.prog) (w := X.w) ks (I1.ok.hd calm) tp (by simpa using refs_of_vals r) (fun p hp => I1.isT (hk p hp)) few un fun h' tk L es ep tb R g keep => PyProof.Rows.args_nil ?_
  have R' : SetTR X.prog X.w ({ s1 with heap := h', toks := tk } : Shared).heap s1.heap.objs.size L es ep tb := R
  obtain ⟨o, ho, ex, hd⟩ := R.ob
  have sz : es.size = L.length := R'.size
  have I2 : Inv X pins σ H1 { s1 with heap := h', toks := tk } := I1.kept fun b o e => keep b o e
  have cnt : L.length = (dist (ks.map (·.2))).length := by
    have le1 := nodup_le (m := dist (ks.map (·.2))) R.nd fun y hy => mem_dist.mpr (by
      obtain ⟨p, hp, e⟩ := List.mem_map.mp hy
      exact List.mem_map.mpr ⟨p, List.mem_of_mem_take (g.sub p hp), e⟩)
    have le2 := nodup_le (m := L.map (·.2)) (nodup_dist (ks.map (·.2))) fun y hy => by
      obtain ⟨p, hp, e⟩ := List.mem_map.mp (mem_dist.mp hy)
      rw [← e]
      exact g.all p (by rw [List.take_length]; exact hp)
    rw [List.length_map] at le1 le2
    omega
  exact call_len_set ho ex hd R'.fits (by have := R.few; rw [sz] <;> omega) ⟨.int (dist (ks.map (·.2))).length, H1, I2.tok _, ⟨_, by rw [sz, cnt]⟩, fin⟩
end
section
variable {T : Tb} {X : Cx} {W : WX}
def kLenSetT (v : Vl) (h : Hs) : Rs Vl := match v with
  | .p (.tup ds) => match tupsI ds with
    | some l => if ds.length < 64 then pI (dist l).length h else none
    | none => none
  | _ => none
theorem tups_at {K : PySem.W.Frag} {M : Trk} {H : Hp} : ∀ {ds : List P} {xs : List V} {l : List (List Int)}, RpA T K M H ds xs → tupsI ds = some l → ∃ ks : List (Addr × List Int), xs = ks.map (fun p => V.ref p.1) ∧ ks.map (·.2) = l ∧ ∀ p ∈ ks, SqT K H p.1 (p.2.map V.int)
  | [], _, l, .nil, e => by
    simp only [tupsI, Option.some.injEq] at e
    subst e
    exact ⟨[], rfl, rfl, fun p hp => by cases hp⟩
  | d :: ds, _, l, .cons h r, e => by
    obtain ⟨n, m, rfl, a, b⟩ := tupsI_cons e
    obtain ⟨ks, e1, e2, e3⟩ := tups_at r b
    obtain ⟨t, et, ht⟩ := h.tupI a
    subst et
    refine ⟨(t, n) :: ks, by rw [e1]; rfl, by rw [← e2]; rfl, fun p hp => ?_⟩
    rcases List.mem_cons.mp hp with z | z
    · rw [z]; exact ht
    · exact e3 p z
theorem sim_lenSetT {k : Nat} {a : Expr} {m : ME} {p p2 q pos : Pos} (hr : Room k X.A) (hc : X.calm = true) (m1 : X.mg "len" = none) (m2 : X.mg "set" = none) (ha : SimE T X W a m) (g1 : Gl X "len" := by rfl) (g2 : Gl X "set" := by rfl)
    (na : starEach [a] X.env = (false, eval a X.env) :: starEach [] X.env := by rfl) : SimE T X W (.Call (.Name "len" p) [.Call (.Name "set" p2) [a] [] q] [] pos) (EV.m1 kLenSetT m) := by
  refine PE.weak (pe_lenSetT hr hc g1 m1 g2 m2 ha na) fun σ H Q ⟨S, M, h, sr, hr, pp⟩ => tr_then sr hr pp fun v h1 M1 H1 x e1 sr1 hr1 r1 p1 => ?_
  unfold kLenSetT at p1
  split at p1
  · split at p1
    · rename_i ds l el
      split at p1
      · rename_i hz
        cases r1 with
        | p r1 =>
          cases r1 with
          | tup ht ra =>
            obtain ⟨ks, e2, e3, e4⟩ := tups_at ra el
            subst e2
            refine ⟨_, ks, rfl, ht.sqT, e4, ?_, ?_⟩
            · have := ra.length
              simp at this
              omega
            · rw [e3]
              exact p1.ret .refl hr1 (.p (.int _))
      · exact p1.elim
    · exact p1.elim
  · exact p1.elim
end
end EV
end T16
section T17
set_option Elab.async false
set_option linter.all false
set_option maxRecDepth 100000
namespace EV
open PySem PySem.Spec PyProof.Rows L2

/-! ### comprehensions within comprehensions -/
theorem look_re {env : Env} {x : Str} : ∀ {names : List (Str × NameKind)}, names.lookup x = some .cell ∨ names.lookup x = some .free →
    (names.map fun (n, k) => if (k == NameKind.free && env.scope.kind == .function && env.kindOf n == some .cell) then (n, NameKind.cell) else (n, k)).lookup x = some .cell ∨
    (names.map fun (n, k) => if (k == NameKind.free && env.scope.kind == .function && env.kindOf n == some .cell) then (n, NameKind.cell) else (n, k)).lookup x = some .free
  | [], h => by simp at h
  | (n, k) :: r, h => by
    by_cases e : (x == n) = true
    · simp only [List.map_cons]
      have h' : k = .cell ∨ k = .free := by simpa [List.lookup, e] using h
      split
      · left; simp [List.lookup, e]
      · rcases h' with z | z <;> subst z
        · left; simp [List.lookup, e]
        · right; simp [List.lookup, e]
    · have e' : (x == n) = false := by simpa using e
      have h' : r.lookup x = some .cell ∨ r.lookup x = some .free := by simpa [List.lookup, e'] using h
      simp only [List.map_cons]
      split <;> simpa [List.lookup, e'] using look_re (env := env) h'
theorem blkOk_re {N : List Str} {sc scope : Scope} {own : List (Str × Nat)} {env : Env} (h : BlkOk N sc scope own) : BlkOk N (relabel sc env) scope own :=
  ⟨h.kind, h.uniq, h.ix, fun y hy e => look_re (env := env) (h.free y hy e), h.own⟩
section
variable {T : Tb} {X : Cx} {W : WX} {k : Nat}
/-! ### f(*xs), C(*xs) -/
theorem sim_makeS (c : Nat) (fresh : Bool) {x : Str} {p pos sp : Pos} {e : Expr} {m : ME} {g : List Vl → Hs → Rs Vl} (F : MakeF T X k c x g) (tk : Takes X W) (hr : Room k X.A) (hg : Gl X x) (ha : SimE T X W e m) (hd : (x == ("__debug__" : Str)) = false := by decide)
    (he : starEach [.Starred e sp] X.env = [(true, eval e X.env)] := by rfl) : SimE T X W (.Call (.Name x p) [.Starred e sp] [] pos) (mAll (kMake c fresh g) (aStar m aNil)) := by
  obtain ⟨j, q, hj, MK, Fq, hm⟩ := F.ex
  refine ⟨fun pins s σ H Q I h => wpAny_Call_Name_kw (ld_glob I hg hm ?_ hd)⟩
  have h2 : tr T X.K W m σ H fun y H1 => ∃ a xs, y = V.ref a ∧ (SqT X.K H1 a xs ∨ SqL X.K H1 a xs) ∧ ∀ x dx, H1 x = none → H1 dx = none → dx ≠ x → spF T X.K g (V.ref x :: xs) (L2.upd (L2.upd H1 dx (.own x)) x (.ins (T.cls c) dx [])) (fun v H2 => v = .non ∧ Q (.ref x) H2) (fun cc d H' => W cc d σ H') := by
    obtain ⟨S, M, h, sr, hr, p⟩ := h
    have p : post T X.K (RV T X.K) M H (erAt T W σ) Q (bnd (bnd (m S h) fun v h1 => match EV.seqP v with
      | some ds => bnd (ret [] h1) fun vs h2 => ret (ds.map Vl.p ++ vs) h2
      | none => none) (kMake c fresh g)) := p
    rw [bnd_bnd] at p
    refine tr_then sr hr p fun v h1 M1 H1 y e1 sr1 hr1 r1 p1 => ?_
    split at p1
    · rename_i ds e2
      obtain ⟨a, xs, rfl, hs, ra⟩ := r1.seqP e2
      refine ⟨a, xs, rfl, hs, fun x dx hx hd ne => ?_⟩
      have p2 : post T X.K (RV T X.K) M1 H1 (erAt T W σ) Q (kMake c fresh g (ds.map Vl.p ++ []) h1) := p1
      rw [List.append_nil] at p2
      exact made_sp hr1 (RpA.vls ra) (fun _ _ z => z) p2 hx hd ne
    · exact p1.elim
  refine PySem.W.callWith_S (h₀ := X.base) I.ok.mod.kin MK.kp (thn (ha.run pins s σ H _ I h2) fun u s1 ⟨y, H1, I1, ry, a, xs, ey, hs, z⟩ => ?_) he
  subst ey
  cases ry
  exact StX.star_any I1 hs fun us s2 I2 rv => ⟨I2.kIn, sim_make.run_made MK Fq (hr.mono hj) tk I2 rv z⟩
end
end EV
namespace EV
open PySem PySem.Spec PyProof.Rows L2
section
variable {T : Tb} {X : Cx} {W : WX} {k : Nat}
/-! ### what is walked, a list or a tuple -/
def iSeqK (v : Vl) (h1 : Hs) : Rs Itd := match v with
  | .p (.tup ds) => ret (.d ds) h1
  | .p (.lst ds) => ret (.d ds) h1
  | .p (.scr ds) => ret (.d ds) h1
  | .ref n => match h1[n]? with
    | some (.lst _) => ret (.r n) h1
    | _ => none
  | _ => none
def iSeq (m : ME) : MI := fun S h => bnd (m S h) iSeqK
theorem sim_iS {tg e : Expr} {m : ME} (h : SimE T X W e m) : SimI T X W tg e (iSeq m) := by
  refine ⟨fun pins s σ H R I ⟨S, M, h0, sr, hr, p⟩ => ?_⟩
  have pick : (iSeq m S h0 = iSeqT m S h0) ∨ (iSeq m S h0 = iSeqL m S h0) := by
    unfold iSeq iSeqT iSeqL
    match m S h0 with
    | none => exact .inl rfl
    | some (.error c, h') => exact .inl rfl
    | some (.ok v, h') =>
      cases v with
      | ref n => exact .inr rfl
      | p d => cases d <;> first | exact .inl rfl | exact .inr rfl
  rcases pick with e1 | e1
  · exact (sim_iT h).run pins s σ H R I ⟨S, M, h0, sr, hr, by rw [← e1]; exact p⟩
  · exact (sim_iL h).run pins s σ H R I ⟨S, M, h0, sr, hr, by rw [← e1]; exact p⟩
end
end EV
end T17
section T18
set_option Elab.async false
set_option linter.all false
set_option maxRecDepth 100000
namespace EV
open PySem PySem.Spec PyProof.Rows L2
/-! ### t * 1, t * 0 -/
theorem tup_mul1 (l : Addr) (items : Array Value) (n : Nat) (dd : Option Addr) (sl : Array (Option Value)) (u : Tok) :
    Meets (Builtin.«tuple.__mul__» ⟨[.ref l, .int 1 u], []⟩) (fun _ R s => s.heap.get? l = some { cls := .type "tuple", dict := dd, data := .seq items n, slots := sl } ∧ R (.ok (.ret (Value.ref l))) s) :=
  .of_wp fun prog w A R s h => by
    obtain ⟨hp, g, d, tk, os⟩ := s
    obtain ⟨hl, h⟩ := h
    have f1 := AutoSeq1.idx_int
    have c1 : (items.isEmpty || (1 : Int) == 1) = true := by simp
    wp_walk using wpAny_loadPart' hl
    repeat (first
      | (refine wpAny_ite_false (decide_eq_false (by decide)) ?_; wp_walk using wpAny_loadPart' hl)
      | (refine wpAny_ite_true (decide_eq_true c1) ?_; wp_walk using wpAny_loadPart' hl))
    exact ⟨_, rfl, h⟩
theorem tup_mul0 (l : Addr) (items : Array Value) (n : Nat) (dd : Option Addr) (sl : Array (Option Value)) (x : Int) (u : Tok) (hx : x ≤ 0) (hlo : -(2 ^ 63) ≤ x) (ne : items.isEmpty = false) :
    Meets (Builtin.«tuple.__mul__» ⟨[.ref l, .int x u], []⟩) (fun _ R s => s.heap.get? l = some { cls := .type "tuple", dict := dd, data := .seq items n, slots := sl } ∧
      R (.ok (.ret (Value.ref s.heap.objs.size))) { s with heap := s.heap.push { cls := Value.type "tuple", data := Data.seq #[] }, toks := s.toks }) :=
  .of_wp fun prog w A R s h => by
    obtain ⟨hp, g, d, tk, os⟩ := s
    obtain ⟨hl, h⟩ := h
    have f1 := AutoSeq1.idx_int
    have c0 : (decide (x < -(2 ^ 63)) || decide (x ≥ 2 ^ 63)) = false := by
      rw [decide_eq_false (by omega), decide_eq_false (by omega)] <;> rfl
    have c1 : (items.isEmpty || x == 1) = false := by
      rw [ne, Bool.false_or]; exact beq_eq_false_iff_ne.mpr (by omega)
    have c2 : (decide (x ≤ 0) || items.isEmpty) = true := by rw [decide_eq_true hx] <;> rfl
    wp_walk using wpAny_loadPart' hl
    repeat (first
      | (refine wpAny_ite_false (decide_eq_false (by rw [c0]; exact Bool.false_ne_true)) ?_; wp_walk using wpAny_loadPart' hl)
      | (refine wpAny_ite_false (decide_eq_false (by rw [c1]; exact Bool.false_ne_true)) ?_; wp_walk using wpAny_loadPart' hl)
      | (refine wpAny_ite_true (decide_eq_true c2) ?_; wp_walk using wpAny_loadPart' hl))
    exact ⟨_, rfl, h⟩

section
variable {T : Tb} {X : Cx} {W : WX}
def rRepU (K : PySem.W.Frag) : R2 := fun x y H Q => ∃ l k xs, x = .ref l ∧ y = .int k ∧ SqT K H l xs ∧ xs ≠ [] ∧ ((k = 1 ∧ Q (.ref l) H) ∨ (k ≤ 0 ∧ -(2 ^ 63) ≤ k ∧ ∀ p, H p = none → Q (.ref p) (L2.upd H p (.tup []))))
theorem op_repU : OpR X (binaryOp .Mult) (rRepU X.K) := by
  intro pins s σ H x y v u Q I rx ry h
  obtain ⟨l, k, xs, rfl, rfl, hT, ne, fin⟩ := h
  cases rx
  obtain ⟨t, rfl⟩ := ry
  obtain ⟨its, r, ⟨⟨cls, dd, data, sl⟩, ho, hc, n, hd⟩, _⟩ := I.tuple hT
  simp only at hc hd
  subst hc hd
  have ne2 : its.toArray.isEmpty = false := by
    cases its with
    | nil =>
      have q := r.length
      exact absurd (List.eq_nil_of_length_eq_zero q) ne
    | cons a b => rfl
  refine wpAny_binaryOp_repeat_ref (T := "tuple") (U := "int") (by decide) ⟨_, ho, rfl⟩ (fun s' => typeIs_int s' k t) noFill_tuple_mul F.fills_int_mul F.slot_int_rmul repeat_tuple F.slot_int_index.lookup
    (call_meets F.slot_int_rmul (typeIs_int s k t) F.entry_int_rmul (F.args_int_rmul_2 _ _) (int_rmul_tuple k t l its.toArray n dd sl) ⟨ho, rfl, ⟨_, ho, rfl⟩, ?_⟩)
  rcases fin with ⟨rfl, q⟩ | ⟨k0, klo, q⟩
  · exact call_meets F.slot_tuple_mul ⟨_, ho, rfl⟩ F.entry_tuple_mul (F.args_tuple_mul_2 _ _) (tup_mul1 l its.toArray n dd sl t) ⟨ho, ⟨.ref l, H, I, rfl, q⟩⟩
  · exact call_meets F.slot_tuple_mul ⟨_, ho, rfl⟩ F.entry_tuple_mul (F.args_tuple_mul_2 _ _) (tup_mul0 l its.toArray n dd sl k t k0 klo ne2)
      ⟨ho, ⟨.ref s.heap.objs.size, _, I.laid (t' := s.toks) (o := .tup []) (fun b ob q => Heap.get?_push_of_some _ q) (Nat.le_refl _) ⟨Nat.zero_le _, [], .nil, IsTup.new _ _⟩, rfl, q _ (I.hok.fresh (Nat.le_refl _))⟩⟩
def fRepU (v w : Vl) (h : Hs) : Rs Vl := match v, w with
  | .p (.tup (d :: ds)), .p (.int k) => if k = 1 then ret (.p (.tup (d :: ds))) h else if k ≤ 0 ∧ -(2 ^ 63) ≤ k then ret (.p (.tup [])) h else fRepT v w h
  | _, _ => none
theorem s_repU : Op2 T X.K fRepU (fun x y H Q => rRepU X.K x y H Q ∨ rRepT X.K x y H Q) := by
  intro M H h v w x y Er Q hr rx ry p
  unfold fRepU at p
  split at p
  · rename_i d ds k
    split at p
    · rename_i hk
      subst hk
      cases rx with
      | p rx =>
        cases rx with
        | tup a ra =>
          cases ry with
          | p ry =>
            cases ry
            exact .inl ⟨_, _, _, rfl, rfl, a.sqT, ra.ne (by simp), .inl ⟨rfl, p.ret .refl hr (.p (.tup a ra))⟩⟩
    · split at p
      · rename_i hk
        cases rx with
        | p rx =>
          cases rx with
          | tup a ra =>
            cases ry with
            | p ry =>
              cases ry
              exact .inl ⟨_, _, _, rfl, rfl, a.sqT, ra.ne (by simp), .inr ⟨hk.1, hk.2, fun q hq => p.ret (.fresh hq) (hr.fresh hq) (new_tup hr hq .nil)⟩⟩
      · exact .inr (s_repT M H h _ _ x y Er Q hr rx ry p)
  · exact p.elim
theorem sim_repU {ea eb : Expr} {a b : ME} {pos : Pos} (ha : SimE T X W ea a) (hb : SimE T X W eb b) : SimE T X W (.BinOp ea .Mult eb pos) (m2 fRepU a b) := sim_op (op_repU.or op_repT) s_repU ha hb
end
end EV
namespace EV
open PySem PySem.Spec PyProof.Rows L2
section
variable {P : Program} {w : World} {K : PySem.W.Frag} {mg : Str → Option Value} {base : Heap} {T : Tb}
/-- nothing at all is promised of a def that does not run -/
theorem fn_none {k : Nat} {a : Addr} : FnR P w K mg base (L2.CX P w) k a (spF T K fun _ _ => none) := fun _ _ _ _ _ _ _ _ _ _ _ ⟨_, _, _, _, _, p⟩ => p.elim
theorem cx_false {H : Hp} {s s' : Shared} {e : Value} (h : L2.CX P w [] H s (fun _ _ _ => False) e s') : False := by
  obtain ⟨_, _, _, _, _, _, _, _, _, _, _, _, z⟩ := h
  exact z
/-- the law at a script -/
theorem sp_script {f : List Vl → Hs → Rs Vl} {H : Hp} {a : Addr} {ns : List Int} (hS : SqL K H a (ns.map V.int)) (hf : ∃ h', f [.p (.scr (ns.map .int))] [] = some (.ok (.p (.bl true)), h')) : spF T K f [.ref a] H (fun v _ => v = .bl true) fun _ _ _ => False := by
  refine ⟨[.p (.scr (ns.map .int))], ⟨[], [], [], fun _ h => h, fun _ h => by cases h⟩, [], .cons (.p (.scr ?_ (RpA.of_ints ns))) .nil, ⟨rfl, List.nodup_nil, (fun a h => by cases h), (fun n a p h => by simp at h), (fun m h => by cases h)⟩, ?_⟩
  · rcases hS with h | h
    · exact .inl ⟨h, by simp⟩
    · exact .inr h
  · obtain ⟨h', e⟩ := hf
    rw [e]
    intro M' H' x _ _ r
    cases r with | p r => cases r; rfl
/-- what is asked of a law, whatever stands for what -/
def spScript (K : PySem.W.Frag) : Sp := fun vs H Q _ => ∃ (a : Addr) (ns : List Int), vs = [.ref a] ∧ SqL K H a (ns.map V.int) ∧ ns.length ≤ 63 ∧ ∀ H', Q (.bl true) H'
theorem sp_script2 {f : List Vl → Hs → Rs Vl} {vs : List V} {H : Hp} {Q : VK} {E : XK} (h : spScript K vs H Q E) (hf : ∀ ns : List Int, ns.length ≤ 63 → ∃ h', f [.p (.scr (ns.map .int))] [] = some (.ok (.p (.bl true)), h')) : vs.length = 1 ∧ spF T K f vs H Q E := by
  obtain ⟨a, ns, rfl, hS, hl, hq⟩ := h
  refine ⟨rfl, [.p (.scr (ns.map .int))], ⟨[], [], [], fun _ h => h, fun _ h => by cases h⟩, [], .cons (.p (.scr ?_ (RpA.of_ints ns))) .nil, ⟨rfl, List.nodup_nil, (fun a h => by cases h), (fun n a p h => by simp at h), (fun m h => by cases h)⟩, ?_⟩
  · rcases hS with h | h
    · exact .inl ⟨h, by simp⟩
    · exact .inr h
  · obtain ⟨h', e⟩ := hf ns hl
    rw [e]
    intro M' H' x _ _ r
    cases r with | p r => cases r; exact hq H'
/-- what is called with data alone does not see the heap -/
def frame (f : List Vl → Hs → Rs Vl) (args : List Vl) (h : Hs) : Rs Vl := match pures args with
  | some _ => match f args [] with
    | some (.ok (.p d), []) => some (.ok (.p d), h)
    | some (.error c, []) => some (.error c, h)
    | _ => none
  | none => f args h
theorem frame_sp {f : List Vl → Hs → Rs Vl} {vs : List V} {H : Hp} {Q : VK} {E : XK} (h : spF T K (frame f) vs H Q E) : spF T K f vs H Q E := by
  obtain ⟨args, M, h, ra, hR, p⟩ := h
  unfold frame at p
  split at p
  · rename_i ds ep
    let M0 : Trk := ⟨[], M.mm, M.no, fun a h => M.sub a (List.mem_append_right _ h), M.inj⟩
    have hR0 : HR T K M0 H [] := ⟨rfl, List.nodup_nil, hR.pos, (fun n a p e => by cases n <;> cases e), fun m hm => let ⟨kvs, q, k⟩ := hR.mem m hm; ⟨kvs, q, k.less (fun _ h => h) fun _ h => h⟩⟩
    have ra0 : RVA T K M0 H args vs := by
      have q0 : RpA T K M0 H ds vs := RpA.less (M := M) (M' := M0) (fun _ h => h) (fun _ h => h) (ra.pures ep)
      have q := RpA.vls q0
      have e : args = ds.map Vl.p := by
        clear ra p hR hR0 q q0
        induction args generalizing ds with
        | nil => simp only [EV.pures, Option.some.injEq] at ep; subst ep; rfl
        | cons a r ih =>
          cases a with
          | ref n => simp [EV.pures] at ep
          | p d =>
            simp only [EV.pures] at ep
            split at ep
            · rename_i l el
              cases ep
              rw [ih l el]; rfl
            · cases ep
      rw [e]; exact q
    have back : ∀ M' H' h', Ext M0 H M' H' → HR T K M' H' h' → Ext M H (M.mix M') H' ∧ HR T K (M.mix M') H' h ∧ ∀ a ∈ (M.mix M').no, a ∈ M'.no := fun M' H' h' e hr' => by
      have sub : ∀ a ∈ (M.mix M').no, a ∈ M'.no := fun a ha => e.nomix a ha
      have e1 : Ext M H (M.mix M') H' := by
        refine ⟨⟨[], by simp⟩, fun _ h => List.mem_append_left _ h, fun a h1 h2 => ?_, fun a o z n => e.keep a o z (fun y => n (List.mem_append_right _ y)), e.live, e.mms, e.mnew⟩
        rcases List.mem_append.mp h1 with z | z
        · exact absurd z h2
        · obtain ⟨m, hm, rfl⟩ := List.mem_map.mp z
          rcases e.mnew m hm with y | y
          · exact absurd (M.subM m y) h2
          · exact y
      refine ⟨e1, ⟨hR.len, hR.nd, fun a ha => hr'.pos a (sub a ha), fun n a q e2 e3 => (hR.at' n a q e2 e3).keep e1 fun o z => ?_, fun m hm => let ⟨kvs, q, k⟩ := hr'.mem m hm; ⟨kvs, q, k.less sub fun _ h => h⟩⟩, sub⟩
      refine e.keep a o z fun y => ?_
      obtain ⟨m, hm, e⟩ := List.mem_map.mp (show a ∈ M.mm.map (·.1) from y)
      obtain ⟨kvs, q, _⟩ := hR.mem m hm
      rw [e] at q
      cases hR.at' n a _ e2 e3 with
      | lst y _ => rw [y] at q; cases q
      | ins y _ _ => rw [y] at q; cases q
    refine ⟨args, M0, [], ra0, hR0, ?_⟩
    split at p
    · rename_i d ef
      rw [ef]
      intro M' H' x e hr' r
      obtain ⟨e1, hr1, sub⟩ := back M' H' _ e hr'
      cases r with | p r => exact p _ H' x e1 hr1 (.p (Rp.less (M := M') (M' := M.mix M') sub (fun _ h => h) r))
    · rename_i c ef
      rw [ef]
      intro M' H' e hr'
      obtain ⟨e1, hr1, _⟩ := back M' H' _ e hr'
      exact p _ H' e1 hr1
    · exact p.elim
  · exact ⟨args, M, h, ra, hR, p⟩
theorem fn_frame {k : Nat} {a : Addr} {f : List Vl → Hs → Rs Vl} (F : FnR P w K mg base (L2.CX P w) k a (spF T K f)) : FnR P w K mg base (L2.CX P w) k a (spF T K (frame f)) := F.imp fun _ _ _ _ h => frame_sp h
end
end EV
end T18
section T19
set_option Elab.async false
set_option linter.all false
set_option maxRecDepth 100000
namespace EV
open PySem PySem.Spec PyProof.Rows L2

/-! ### raise X(..), X an own class of exceptions -/
structure ExcF (T : Tb) (K : PySem.W.Frag) (mg : Str → Option Value) (c : Nat) (x : Str) : Prop where
  ex : ∃ C : Addr, T.exc c = .ref C ∧ (∃ (bmB : List Value) (B newId initId : String), ExcBaseFacts B newId initId bmB ∧ PySem.W.excIn K C bmB newId = true) ∧ mg x = some (.ref C) ∧ PySem.W.keepIn K (.ref C) = true ∧
    PySem.W.subIn K (.ref C) (.type "BaseException") = some true ∧ PySem.W.typeIn K (.ref C) = some (.type "type")
section
variable {T : Tb} {X : Cx} {W : WX}
def sRaiseA (c : Nat) (a : MA) : MS := fun S h => bndS (a S h) S fun vs h1 => if vs.length ≤ 16777216 then some (.error ⟨c, []⟩, S, h1) else none
theorem sim_raiseA (c : Nat) {x : Str} {e : Expr} {es : List Expr} {p pos pos2 : Pos} {a : MA} (Z : ExcF T X.K X.mg c x) (hc : X.calm = true) (tk : Takes X W) (ha : SimA T X W (e :: es) a) (hg : Gl X x := by rfl) (hdb : (x == ("__debug__" : Str)) = false := by decide)
    (he : starEach (e :: es) X.env = (false, eval e X.env) :: starEach es X.env := by rfl) (hpl : (backTo pos (starEach es X.env)).any (·.1) = false := by rfl) : SimS T X W (.Raise (some (.Call (.Name x p) (e :: es) [] pos)) none pos2) (sRaiseA c a) := by
  obtain ⟨C, ec, ⟨bmB, B, newId, initId, F, q⟩, zg, zk, zs, zt⟩ := Z.ex
  refine PS.weak (ps_raise hc tk (pmk_ownA F q zg zk (raises_own zs zt) hg ha hdb he hpl)) fun D σ H ⟨S, M, h, sr, hr, p⟩ => ⟨S, M, h, sr, hr, p.bnd sr fun vs h1 M1 H1 xs e1 sr1 hr1 r1 p1 => ?_⟩
  split at p1
  · rename_i hz
    exact ⟨by rw [← r1.length]; exact le_line hz, by have z := (p1 M1 H1 σ .refl hr1 sr1).1 rfl; rw [ec] at z; exact z⟩
  · exact p1.elim
/-! ### f'..' -/
def fFmt (v : Vl) (h : Hs) : Rs Vl := match v with
  | .p (.str y) => if y.length ≤ 16777216 then ret (.p (.str y)) h else none
  | .p (.int i) => if i.natAbs.log2 < 1920 then ret (.p (.str (toString i))) h else none
  | _ => none
theorem sim_fmt {e : Expr} {m : ME} {pos : Pos} (he : SimE T X W e m) : SimE T X W (.FormattedValue e (-1) none pos) (m1 fFmt m) := by
  refine PE.weak (pe_fmt he) fun σ H Q ⟨S, M, h, sr, hr, p⟩ => tr_then sr hr p fun v h1 M1 H1 x e1 sr1 hr1 r1 p1 => ?_
  unfold fFmt at p1
  split at p1
  · split at p1
    · rename_i hz
      cases r1 with | p r1 => cases r1; exact .inl ⟨_, rfl, le_line hz, p1.ret .refl hr1 (.p (.str _))⟩
    · exact p1.elim
  · split at p1
    · rename_i hz
      cases r1 with | p r1 => cases r1; exact .inr ⟨_, rfl, hz, p1.ret .refl hr1 (.p (.str _))⟩
    · exact p1.elim
  · exact p1.elim
inductive SimJ (T : Tb) (X : Cx) (W : WX) : List Expr → List ME → Prop where
  | nil : SimJ T X W [] []
  | cons {e : Expr} {m : ME} {es : List Expr} {ms : List ME} (h : SimE T X W e m) (r : SimJ T X W es ms) : SimJ T X W (e :: es) (m :: ms)
theorem SimJ.pj {es : List Expr} {ms : List ME} (h : SimJ T X W es ms) : PJ X es (ms.map (tr T X.K W)) := by
  induction h with
  | nil => exact .nil
  | cons h _ ih => exact .cons h ih
def mJs : List ME → Str → ME
  | [], acc, _, h => ret (.p (.str acc)) h
  | m :: ms, acc, S, h => bnd (m S h) fun v h1 => match v with
    | .p (.str y) => if (acc ++ y).length ≤ 16777216 then mJs ms (acc ++ y) S h1 else none
    | _ => none
theorem tJs_of {K : PySem.W.Frag} {σ : L2.St} {Q : VK} : ∀ {ms : List ME} {acc : Str} {S : Sl} {M : Trk} {h : Hs} {H : Hp}, SR T K M H S σ → HR T K M H h → post T K (RV T K) M H (erAt T W σ) Q (mJs ms acc S h) → tJs (ms.map (tr T K W)) acc σ H (fun out H1 => Q (.str out) H1)
  | [], _, _, _, _, _, _, hr, p => p.ret .refl hr (.p (.str _))
  | m :: ms, acc, S, M, h, H, sr, hr, p => by
    refine ⟨S, M, h, sr, hr, p.bnd fun v h1 M1 H1 x e1 hr1 r1 p1 => ?_⟩
    split at p1
    · split at p1
      · rename_i y hz
        cases r1 with
        | p r1 =>
          cases r1
          exact ⟨y, rfl, le_line hz, tJs_of (sr.ext e1) hr1 p1⟩
      · exact p1.elim
    · exact p1.elim
theorem sim_joined {v1 v2 : Expr} {rest : List Expr} {ms : List ME} {pos : Pos} (h : SimJ T X W (v1 :: v2 :: rest) ms) : SimE T X W (.JoinedStr (v1 :: v2 :: rest) pos) (mJs ms Str.empty) :=
  PE.weak (pe_joined h.pj) fun _ _ _ ⟨_, _, _, sr, hr, p⟩ => tJs_of sr hr p
end
end EV
end T19
section T20
set_option Elab.async false
set_option linter.all false
set_option maxRecDepth 100000
namespace EV
open PySem PySem.Spec PyProof.Rows L2

/-! ### o(e, ..), o an instance -/
section
variable {T : Tb} {X : Cx} {W : WX} {k : Nat}
structure CallF (T : Tb) (X : Cx) (k c : Nat) (g : List Vl → Hs → Rs Vl) : Prop where
  ex : ∃ a, StX.CallO X.K (T.cls c) a ∧ FnR X.prog X.w X.K X.mg X.base (L2.CX X.prog X.w) k a (spF T X.K g)
def mCallO (c : Nat) (g : List Vl → Hs → Rs Vl) (o : ME) (a : MA) : ME := fun S h => bnd (o S h) fun v h1 => match fldV v h1 with
  | some (c', _) => if c' = c then bnd (a S h1) fun vs h2 => match fldV v h2 with
      | some (c'', _) => if c'' = c then g (v :: vs) h2 else none
      | none => none
    else none
  | none => none
theorem sim_callO (c : Nat) {fe e : Expr} {es : List Expr} {m : ME} {a : MA} {g : List Vl → Hs → Rs Vl} {pos : Pos} (Z : CallF T X k c g) (tk : Takes X W) (hr : Room k X.A) (hf : SimE T X W fe m) (ha : SimA T X W (e :: es) a)
    (ht : eval (.Call fe (e :: es) [] pos) X.env = (do callWith pos (← eval fe X.env) [] (backTo pos (starEach (e :: es) X.env)) (backToKw pos (keywordEach [] X.env))) := by rfl)
    (he : starEach (e :: es) X.env = (false, eval e X.env) :: starEach es X.env := by rfl) (hpl : (backTo pos (starEach es X.env)).any (·.1) = false := by rfl) : SimE T X W (.Call fe (e :: es) [] pos) (mCallO c g m a) := by
  obtain ⟨q, C, F⟩ := Z.ex
  refine ⟨fun pins s σ H Q I ⟨S, M, h, sr, hR, p⟩ => ?_⟩
  have h2 : tr T X.K W m σ H fun y H1 => ∃ ad, y = V.ref ad ∧ trA T X.K W a σ H1 fun vs H2 => StX.InsC X H2 ad (T.cls c) ∧ spF T X.K g (V.ref ad :: vs) H2 Q (fun cc d H' => W cc d σ H') := by
    refine tr_then sr hR p fun v h1 M1 H1 x e1 sr1 hr1 r1 p1 => ?_
    split at p1
    · rename_i c' fs q1
      split at p1
      · rename_i hc
        subst hc
        obtain ⟨ad, dx, gs, rfl, z, _, _⟩ := r1.fld hr1 q1
        refine ⟨ad, rfl, trA_then sr1 hr1 p1 fun vs h2 M2 H2 xs e2 sr2 hr2 r2 p2 => ?_⟩
        have r1' := r1.ext e2
        split at p2
        · rename_i c'' fs2 q2
          split at p2
          · rename_i hc2
            subst hc2
            obtain ⟨ad2, dx2, gs2, ea, z2, _, _⟩ := r1'.fld hr2 q2
            cases ea
            exact ⟨.inr ⟨_, _, z2⟩, v :: vs, M2, h2, .cons r1' r2, hr2, p2⟩
          · exact p2.elim
        · exact p2.elim
      · exact p1.elim
    · exact p1.elim
  refine Call_ (thn (hf.run pins s σ H _ I h2) fun u s1 ⟨y, H1, I1, ry, ad, ey, q1⟩ => ?_) ht
  subst ey
  obtain rfl : u = Value.ref ad := ry
  refine StX.callO_with (thn (ha.run pos pins s1 σ H1 _ I1 q1) fun us s2 ⟨vs, H2, I2, r, hi, q2⟩ => ?_) he hpl
  obtain ⟨ox, od, J, hd⟩ := StX.insC_at I2 hi
  refine ⟨⟨_, ox, od, J, hd⟩, wpAny_call (PySem.W.kco_code I2.kIn J hd C.at_ C.fn C.fi (codeAny_mono (F X.A X.stack s2 H2 (.ref ad :: us) (V.ref ad :: vs) Q _ hr I2.env0 (.cons rfl r) q2) fun res s' hq => ?_))⟩
  cases res with
  | error er => exact tk er s' (XE.of_call I2 (fun _ _ _ h => h) hq)
  | ok fl =>
    cases fl with
    | ret u => exact I2.after hq
    | next => exact False.elim hq
    | brk => exact False.elim hq
    | cont => exact False.elim hq
end
end EV
end T20
section T21
set_option Elab.async false
set_option linter.all false
set_option maxRecDepth 100000
namespace EV
open PySem PySem.Spec PyProof.Rows L2

section
variable {T : Tb} {X : Cx} {W : WX} {k : Nat}
/-- a special method that raises nothing -/
structure SpecF (T : Tb) (X : Cx) (k c : Nat) (f : Str) (g : List Vl → Hs → Rs Vl) : Prop where
  ex : ∃ j a, j + 1 ≤ k ∧ PySem.W.findIn X.K (.ref (T.cls c)) f = some (some (.ref a)) ∧ PySem.W.isFn X.K (.ref a) = true ∧ PySem.W.fnIn X.K a = true ∧ FnR X.prog X.w X.K X.mg X.base (L2.CX X.prog X.w) j a (spF T X.K g)
/-- the callee run within, nothing raised -/
theorem run_in1 {pins : List (Addr × Obj)} {σ : L2.St} {H : Hp} {s : Shared} {Q : VK} {us : List Value} {vs : List V} {a : Addr} {j : Nat} {g : List Vl → Hs → Rs Vl} {R : Value → Shared → Prop} {E : Value → Shared → Prop} (F : FnR X.prog X.w X.K X.mg X.base (L2.CX X.prog X.w) j a (spF T X.K g)) (hr : Room (j + 1) X.A)
    (I : Inv X pins σ H s) (r : Vals vs us) (h : spF T X.K g vs H Q (fun _ _ _ => False)) (next : ∀ u s' v H', Inv X pins σ H' s' → RelV v u → Q v H' → R u s') : wpAny (model X.prog X.w) X.A.in1 (call (.ref a) us) R E s := by
  refine wpAny_call (codeAny_mono (F X.A.in1 X.stack s H us vs Q _ hr.in1 I.env0.in1 r h) fun res s' hq => ?_)
  cases res with
  | error e => exact False.elim ((takes0 (X := X.nox)) e s' (XE.of_call (X := X.nox) (W := fun _ _ _ _ => False) (I.wish _) (fun _ _ _ h => h) hq))
  | ok fl =>
    cases fl with
    | ret u =>
      obtain ⟨v, H', I3, rv, q3⟩ := I.after hq
      exact next u s' v H' I3 rv q3
    | next => exact False.elim hq
    | brk => exact False.elim hq
    | cont => exact False.elim hq
/-! ### len(o) -/
def rLenO (T : Tb) (K : PySem.W.Frag) (c : Nat) (g : List Vl → Hs → Rs Vl) : List V → Hp → VK → Prop := fun xs H Q => ∃ a dx gs, xs = [.ref a] ∧ H a = some (.ins (T.cls c) dx gs) ∧
  spF T K g [.ref a] H (fun v H' => ∃ n : Int, v = .int n ∧ 0 ≤ n ∧ n < 2 ^ 63 ∧ Q (.int n) H') (fun _ _ _ => False)
theorem cr_lenO {c : Nat} {g : List Vl → Hs → Rs Vl} (Z : SpecF T X k c "__len__" g) (hr : Room k X.A) : CallR X (.builtin "len") (rLenO T X.K c g) := by
  intro pins s σ H xs us Q I r h
  obtain ⟨a, dx, gs, rfl, ea, hsp⟩ := h
  obtain ⟨j, q, hj, hs, hf, _, F⟩ := Z.ex
  obtain ⟨mA, O, _⟩ := ins_get I.hok ea
  obtain ⟨od, J, _⟩ := O.look
  obtain ⟨m, fr⟩ := I.fr
  rw [Vals.ref1 r]
  refine PySem.W.len_K fr I.ok.mod.kin J hs hf (run_in1 (vs := [V.ref a]) F (hr.mono hj) I (.cons (show RelV (V.ref a) (Value.ref a) from rfl) .nil) hsp fun u s' v H' I' rv ⟨n, ev, n0, n1, q2⟩ => ?_)
  subst ev
  obtain ⟨t, rfl⟩ := rv
  exact ⟨⟨n0, n1⟩, ⟨.int n, H', I'.tok _, ⟨_, rfl⟩, q2⟩⟩
def kLenO (c : Nat) (g : List Vl → Hs → Rs Vl) (vs : List Vl) (h : Hs) : Rs Vl := match vs with
  | [v] => match fldV v h with
    | some (c', _) => if c' = c then match g [v] h with
        | some (.ok (.p (.int n)), h') => if 0 ≤ n ∧ n < 2 ^ 63 then ret (.p (.int n)) h' else none
        | _ => none
      else none
    | none => kLen [v] h
  | _ => none
theorem s_lenO {c : Nat} {g : List Vl → Hs → Rs Vl} : OpN T X.K (kLenO c g) (fun xs H Q => rLenO T X.K c g xs H Q ∨ rLen2 X.K xs H Q) := by
  intro M H h vs xs Er Q hr r p
  unfold kLenO at p
  split at p
  · rename_i v
    split at p
    · rename_i c' fs q
      split at p
      · rename_i hc
        subst hc
        split at p
        · rename_i n h' eg
          split at p
          · rename_i hn
            cases r with
            | cons r1 r2 =>
              cases r2
              obtain ⟨a, dx, gs, rfl, z, _, _⟩ := r1.fld hr q
              refine .inl ⟨a, dx, gs, rfl, z, [v], M, h, .cons r1 .nil, hr, ?_⟩
              rw [eg]
              intro M' H' x e hr' rx
              cases rx with | p rx => cases rx; exact ⟨n, rfl, hn.1, hn.2, p M' H' _ e hr' (.p (.int _))⟩
          · exact p.elim
        · exact p.elim
      · exact p.elim
    · exact .inr (s_len M H h [v] xs Er Q hr r p)
  · exact p.elim
theorem sim_lenO (c : Nat) {g : List Vl → Hs → Rs Vl} {e : Expr} {a : MA} {p pos : Pos} (Z : SpecF T X k c "__len__" g) (hr : Room k X.A) (hm : X.mg "len" = none) (ha : SimA T X W [e] a) (hg : Gl X "len" := by rfl)
    (he : starEach [e] X.env = (false, eval e X.env) :: starEach [] X.env := by rfl) : SimE T X W (.Call (.Name "len" p) [e] [] pos) (mAll (kLenO c g) a) :=
  sim_callB ((cr_lenO Z hr).or (call_len_str.or call_len_seq)) s_lenO hg hm PySem.boot_len ha (he := he) (hpl := rfl)
/-! ### x in o, o[i] -/
theorem run_in0 {pins : List (Addr × Obj)} {σ : L2.St} {H : Hp} {s : Shared} {Q : VK} {us : List Value} {vs : List V} {a : Addr} {j : Nat} {g : List Vl → Hs → Rs Vl} {R : Value → Shared → Prop} {E : Value → Shared → Prop} (F : FnR X.prog X.w X.K X.mg X.base (L2.CX X.prog X.w) j a (spF T X.K g)) (hr : Room j X.A)
    (I : Inv X pins σ H s) (r : Vals vs us) (h : spF T X.K g vs H Q (fun _ _ _ => False)) (next : ∀ u s' v H', Inv X pins σ H' s' → RelV v u → Q v H' → R u s') : wpAny (model X.prog X.w) X.A (call (.ref a) us) R E s := by
  refine wpAny_call (codeAny_mono (F X.A X.stack s H us vs Q _ hr I.env0 r h) fun res s' hq => ?_)
  cases res with
  | error e => exact False.elim ((takes0 (X := X.nox)) e s' (XE.of_call (X := X.nox) (W := fun _ _ _ _ => False) (I.wish _) (fun _ _ _ h => h) hq))
  | ok fl =>
    cases fl with
    | ret u =>
      obtain ⟨v, H', I3, rv, q3⟩ := I.after hq
      exact next u s' v H' I3 rv q3
    | next => exact False.elim hq
    | brk => exact False.elim hq
    | cont => exact False.elim hq
def rInO (T : Tb) (K : PySem.W.Frag) (c : Nat) (neg : Bool) (g : List Vl → Hs → Rs Vl) : R2 := fun x y H Q => ∃ a dx gs, y = .ref a ∧ H a = some (.ins (T.cls c) dx gs) ∧
  spF T K g [.ref a, x] H (fun v H' => ∃ b : Bool, v = .bl b ∧ Q (.bl (if neg then !b else b)) H') (fun _ _ _ => False)
theorem op_inO {c : Nat} {g : List Vl → Hs → Rs Vl} (Z : SpecF T X k c "__contains__" g) (hr : Room k X.A) : OpR X (compareOp .In) (rInO T X.K c false g) := by
  intro pins s σ H x y v u Q I rx ry h
  obtain ⟨a, dx, gs, rfl, ea, hsp⟩ := h
  obtain ⟨j, q, hj, hs, hf, _, F⟩ := Z.ex
  obtain ⟨mA, O, _⟩ := ins_get I.hok ea
  obtain ⟨od, J, _⟩ := O.look
  obtain ⟨m, fr⟩ := I.fr
  cases ry
  refine PySem.W.in_K fr I.ok.mod.kin J hs hf (run_in0 (vs := [V.ref a, x]) F (hr.mono (by omega)) I (.cons (show RelV (V.ref a) (Value.ref a) from rfl) (.cons rx .nil)) hsp fun u s' v H' I' rv ⟨b, ev, q2⟩ => ?_)
  subst ev
  cases rv
  exact wpAny_pure ⟨.bl b, H', I', rfl, q2⟩
theorem op_notInO {c : Nat} {g : List Vl → Hs → Rs Vl} (Z : SpecF T X k c "__contains__" g) (hr : Room k X.A) : OpR X (compareOp .NotIn) (rInO T X.K c true g) := by
  intro pins s σ H x y v u Q I rx ry h
  obtain ⟨a, dx, gs, rfl, ea, hsp⟩ := h
  obtain ⟨j, q, hj, hs, hf, _, F⟩ := Z.ex
  obtain ⟨mA, O, _⟩ := ins_get I.hok ea
  obtain ⟨od, J, _⟩ := O.look
  obtain ⟨m, fr⟩ := I.fr
  cases ry
  refine PySem.W.notIn_K fr I.ok.mod.kin J hs hf (run_in0 (vs := [V.ref a, x]) F (hr.mono (by omega)) I (.cons (show RelV (V.ref a) (Value.ref a) from rfl) (.cons rx .nil)) hsp fun u s' v H' I' rv ⟨b, ev, q2⟩ => ?_)
  subst ev
  cases rv
  exact wpAny_pure ⟨.bl (!b), H', I', rfl, q2⟩
def rSubO (T : Tb) (K : PySem.W.Frag) (c : Nat) (g : List Vl → Hs → Rs Vl) : R2 := fun x y H Q => ∃ a dx gs, x = .ref a ∧ H a = some (.ins (T.cls c) dx gs) ∧ spF T K g [.ref a, y] H Q (fun _ _ _ => False)
def fInO (c : Nat) (neg : Bool) (g : List Vl → Hs → Rs Vl) (v w : Vl) (h : Hs) : Rs Vl := match fldV w h with
  | some (c', _) => if c' = c then match g [w, v] h with
      | some (.ok (.p (.bl b)), h') => ret (.p (.bl (if neg then !b else b))) h'
      | _ => none
    else none
  | none => fIn neg v w h
theorem s_inO1 {c : Nat} {neg : Bool} {g : List Vl → Hs → Rs Vl} {r : R2} (base : Op2 T X.K (fIn neg) r) : Op2 T X.K (fInO c neg g) (fun x y H Q => rInO T X.K c neg g x y H Q ∨ r x y H Q) := by
  intro M H h v w x y Er Q hr rx ry p
  unfold fInO at p
  split at p
  · rename_i c' fs q
    split at p
    · rename_i hc
      subst hc
      split at p
      · rename_i b h' eg
        obtain ⟨a, dx, gs, rfl, z, _, _⟩ := ry.fld hr q
        refine .inl ⟨a, dx, gs, rfl, z, [w, v], M, h, .cons ry (.cons rx .nil), hr, ?_⟩
        rw [eg]
        intro M' H' x' e hr' rx'
        cases rx' with | p rx' => cases rx'; exact ⟨b, rfl, p M' H' _ e hr' (.p (.bl _))⟩
      · exact p.elim
    · exact p.elim
  · exact .inr (base M H h v w x y Er Q hr rx ry p)
section
variable {c : Nat} {g : List Vl → Hs → Rs Vl} {ea eb : Expr} {a b : ME} {pos : Pos}
theorem sim_inO (Z : SpecF T X k c "__contains__" g) (hr : Room k X.A) (ha : SimE T X W ea a) (hb : SimE T X W eb b) (hm : behindInMarks .In eb = false := by rfl) : SimE T X W (.Compare ea [.In] [eb] pos) (m2 (fInO c false g) a b) := sim_cmp ((op_inO Z hr).or ((op_inD (room65 hr)).or (op_inTp (room65 hr)))) (s_inO1 s_in) hm ha hb
theorem sim_notInO (Z : SpecF T X k c "__contains__" g) (hr : Room k X.A) (ha : SimE T X W ea a) (hb : SimE T X W eb b) (hm : behindInMarks .NotIn eb = false := by rfl) : SimE T X W (.Compare ea [.NotIn] [eb] pos) (m2 (fInO c true g) a b) := sim_cmp ((op_notInO Z hr).or ((op_notInD (room65 hr)).or (op_notInTp (room65 hr)))) (s_inO1 s_notIn) hm ha hb
theorem simT_inO (Z : SpecF T X k c "__contains__" g) (hr : Room k X.A) (ha : SimE T X W ea a) (hb : SimE T X W eb b) (hm : behindInMarks .In eb = false := by rfl) : SimT T X W (.Compare ea [.In] [eb] pos) (mT (m2 (fInO c false g) a b)) := simT_cmp ((op_inO Z hr).or ((op_inD (room65 hr)).or (op_inTp (room65 hr)))) (s_inO1 s_in) hm ha hb
theorem simT_notInO (Z : SpecF T X k c "__contains__" g) (hr : Room k X.A) (ha : SimE T X W ea a) (hb : SimE T X W eb b) (hm : behindInMarks .NotIn eb = false := by rfl) : SimT T X W (.Compare ea [.NotIn] [eb] pos) (mT (m2 (fInO c true g) a b)) := simT_cmp ((op_notInO Z hr).or ((op_notInD (room65 hr)).or (op_notInTp (room65 hr)))) (s_inO1 s_notIn) hm ha hb
end
/-! o[i], what o says raised or not -/
def PlainIxO (b : Expr) : Prop := ∀ (x : Addr) i, subscripted b true (.ref x) i = runValue (.builtin "lifetime.subscript" ⟨[.ref x, i], []⟩)
def fSubO (c : Nat) (g : List Vl → Hs → Rs Vl) (v w : Vl) (h : Hs) : Rs Vl := match fldV v h with
  | some (c', _) => if c' = c then g [v, w] h else none
  | none => fIdx v w h
theorem sim_subO {c : Nat} {g : List Vl → Hs → Rs Vl} {ea eb : Expr} {a b : ME} {pos : Pos} (Z : SpecF T X k c "__getitem__" g) (tk : Takes X W) (hr : Room k X.A) (ha : SimE T X W ea a) (hb : SimE T X W eb b) (h1 : PlainIx eb := by exact fun _ _ => rfl) (h2 : PlainIxO eb := by exact fun _ _ => by with_unfolding_all rfl) :
    SimE T X W (.Subscript ea eb pos) (m2 (fSubO c g) a b) := by
  obtain ⟨j, q, hj, hs, hf, hfi, F⟩ := Z.ex
  refine ⟨fun pins s σ H Q I ⟨S, M, h, sr, hR, p⟩ => ?_⟩
  have told : tOp (fun x y H Q => (∃ ad dx gs, x = .ref ad ∧ H ad = some (.ins (T.cls c) dx gs) ∧ spF T X.K g [.ref ad, y] H Q (fun cc d H' => W cc d σ H')) ∨ rIx2 X.K x y H Q) (tr T X.K W a) (tr T X.K W b) σ H Q := by
    refine tr_then sr hR p fun v h1 M1 H1 x e1 sr1 hr1 r1 p1 => tr_then sr1 hr1 p1 fun w h2 M2 H2 y e2 sr2 hr2 r2 p2 => ?_
    unfold fSubO at p2
    split at p2
    · rename_i c' fs q1
      split at p2
      · rename_i hc
        subst hc
        obtain ⟨ad, dx, gs, rfl, z, _, _⟩ := (r1.ext e2).fld hr2 q1
        exact .inl ⟨ad, dx, gs, rfl, z, [v, w], M2, h2, .cons (r1.ext e2) (.cons r2 .nil), hr2, p2⟩
      · exact p2.elim
    · exact .inr (s_idx M2 H2 h2 v w x y _ Q hr2 (r1.ext e2) r2 p2)
  refine Subscript_ (binT ha hb I told fun v u s2 x y H2 I2 rx ry z => ?_)
  rcases z with ⟨ad, dx, gs, rfl, eo, sp⟩ | z
  · obtain ⟨mA, O, _⟩ := ins_get I2.hok eo
    obtain ⟨od, J, _⟩ := O.look
    obtain ⟨m, fr⟩ := I2.fr
    cases rx
    refine PySem.W.sub_K fr I2.ok.mod.kin J hs hfi hf (wpAny_call (codeAny_mono (F X.A.in1 X.stack s2 H2 [Value.ref ad, u] [V.ref ad, y] Q _ (hr.mono hj).in1 I2.env0.in1 (.cons (show RelV (V.ref ad) (Value.ref ad) from rfl) (.cons ry .nil)) sp) fun res s' hq => ?_)) (h2 _ _)
    cases res with
    | error er => exact tk er s' (XE.of_call I2 (fun _ _ _ h => h) hq)
    | ok fl =>
      cases fl with
      | ret u => exact I2.after hq
      | next => exact False.elim hq
      | brk => exact False.elim hq
      | cont => exact False.elim hq
  · exact (ix_list.or ix_tup) ea eb pins s2 σ H2 x y v u Q I2 rx ry z (h1 _ _)
end
end EV
end T21
section T22
set_option Elab.async false
set_option linter.all false
set_option maxRecDepth 100000
namespace EV
open PySem PySem.Spec PyProof.Rows L2

/-! ### d.get(key, other), keys int tuples -/
section
variable {T : Tb} {X : Cx} {W : WX} {k : Nat}
def mDGet2 (o i d : ME) : ME := fun S h => bnd (o S h) fun v h1 => match v with
  | .p (.dct ks vs) => bnd (i S h1) fun w h2 => match w with
    | .p dw => match tupI1 dw with
      | some n => bnd (d S h2) fun z h3 => match findP ks vs n with
        | some x => ret (.p x) h3
        | none => ret z h3
      | none => none
    | .ref _ => none
  | _ => none
theorem tup_key {K : PySem.W.Frag} {M : Trk} {H : Hp} {dw : P} {y : V} {n : List Int} (r : Rp T K M H dw y) (e : tupI1 dw = some n) : ∃ b, y = .ref b ∧ H b = some (.tup ((kyl n).map kV)) := by
  have q := tupI1_eq e
  subst q
  cases r with
  | tup h ra =>
    have z := RpA.ints ra
    subst z
    exact ⟨_, rfl, by rw [show (kyl n).map kV = n.map V.int by simp [kyl, kV]]; exact h.1⟩
theorem sim_dget2 {o e f : Expr} {mo mi md : ME} {apos cpos : Pos} (hr : Room k X.A) (ho : SimE T X W o mo) (he : SimE T X W e mi) (hf : SimE T X W f md) (m : M2 X o "get" apos e f cpos) : SimE T X W (.Call (.Attribute o "get" apos) [e, f] [] cpos) (mDGet2 mo mi md) := by
  refine PE.weak (pe_dget2 (hu_of hr.r) ho he hf m) fun σ H Q ⟨S, M, h, sr, hR, p⟩ => tr_then sr hR p fun v h1 M1 H1 x e1 sr1 hr1 r1 p1 => ?_
  split at p1
  · rename_i ks vs
    cases r1 with
    | p r1 =>
      cases r1 with
      | dct hd hn hk rv =>
        rename_i a kvs
        refine ⟨a, rfl, .inr ⟨kvs, .of hd⟩, tr_then sr1 hr1 p1 fun w h2 M2 H2 y e2 sr2 hr2 r2 p2 => ?_⟩
        split at p2
        · rename_i dw
          split at p2
          · rename_i n en
            refine tr_then sr2 hr2 p2 fun z h3 M3 H3 zv e3 sr3 hr3 r3 p3 => ?_
            cases r2 with
            | p r2 =>
              obtain ⟨b, eb, hb⟩ := tup_key (r2.ext e3) en
              subst eb
              have hd3 := (e2.trans e3).kept hd hn
              refine ⟨valV kvs (kyl n), .t hd3 hb, ?_⟩
              rcases findP_val (x := n) hk (rv.ext (e2.trans e3)) with ⟨q1, q2⟩ | ⟨d, u, q1, q2, q3⟩
              · rw [q1] at p3
                rw [q2]
                exact p3.ret .refl hr3 r3
              · rw [q1] at p3
                rw [q2]
                exact p3.ret .refl hr3 (.p q3)
          · exact p2.elim
        · exact p2.elim
  · exact p1.elim
end
end EV
end T22
section T23
set_option Elab.async false
set_option linter.all false
set_option maxRecDepth 100000
namespace EV
open PySem PySem.Spec PyProof.Rows L2

section
variable {T : Tb} {X : Cx} {W : WX} {ea eb e : Expr} {a b m : ME} {pos : Pos}
/-! ### & and | -/
abbrev fAnd := fI2 (fun _ _ => true) fun i j => .int (Builtin.bitAnd i j)
abbrev fOr := fI2 (fun _ _ => true) fun i j => .int (Builtin.bitOr i j)
theorem sim_band (ha : SimE T X W ea a) (hb : SimE T X W eb b) : SimE T X W (.BinOp ea .BitAnd eb pos) (m2 fAnd a b) := sim_op op_and (s_I0 fun _ _ _ _ => .int _) ha hb
theorem sim_bor (ha : SimE T X W ea a) (hb : SimE T X W eb b) : SimE T X W (.BinOp ea .BitOr eb pos) (m2 fOr a b) := sim_op op_or (s_I0 fun _ _ _ _ => .int _) ha hb
/-! ### a target that takes its value apart; two targets -/
def asgK (g : MG) (v : Vl) (S : Sl) (h : Hs) : RS := match v with
  | .p d => match g d S with
    | some S' => some (.ok .nx, S', h)
    | none => none
  | .ref _ => none
def sAsg (g : MG) (m : ME) : MS := fun S h => bndS (m S h) S fun v h1 => asgK g v S h1
theorem sim_asg {tg : Expr} {js : List Nat} {g : MG} (hg : SimG T X tg js g) (he : SimE T X W e m)
    (ha : (assignEach [tg] X.env).map (·.2) = [assign tg X.env] := by rfl)
    (hs : swapsWithSole [tg] e pos.line X.env = pure false := by rfl) (hw : swappedStores [tg] e X.env = pure none := by rfl) : SimS T X W (.Assign [tg] e pos) (sAsg g m) := by
  refine PS.weak (ps_asg he hg (h1 := ha) (hs := hs) (hw := hw)) fun D σ H ⟨S, M, h, sr, hr, p⟩ => ⟨S, M, h, sr, hr, p.bnd sr fun v h1 M1 H1 x e1 sr1 hr1 r1 p1 => ?_⟩
  unfold asgK at p1
  split at p1
  · rename_i d
    split at p1
    · rename_i S' eg
      cases r1 with
      | p rd => exact ⟨S, M1, h1, d, S', sr1, hr1, rd, eg, fun σ' sr' _ => p1 M1 H1 σ' .refl hr1 sr'⟩
    · exact p1.elim
  · exact p1.elim
def sAsg2 (g1 g2 : MG) (m : ME) : MS := fun S h => bndS (m S h) S fun v h1 => match v with
  | .p d => match g1 d S with
    | some S1 => match g2 d S1 with
      | some S2 => some (.ok .nx, S2, h1)
      | none => none
    | none => none
  | .ref _ => none
theorem sim_asg2 {t1 t2 : Expr} {js ks : List Nat} {g1 g2 : MG} (hg1 : SimG T X t1 js g1) (hg2 : SimG T X t2 ks g2) (he : SimE T X W e m)
    (ha : (assignEach [t1, t2] X.env).map (·.2) = [assign t1 X.env, assign t2 X.env] := by rfl) (hw : swappedStores [t1, t2] e X.env = pure none := by rfl) : SimS T X W (.Assign [t1, t2] e pos) (sAsg2 g1 g2 m) := by
  refine PS.weak (ps_asg2 he hg1 hg2 ha hw) fun D σ H ⟨S, M, h, sr, hr, p⟩ => ⟨S, M, h, sr, hr, p.bnd sr fun v h1 M1 H1 x e1 sr1 hr1 r1 p1 => ?_⟩
  split at p1
  · rename_i d
    split at p1
    · rename_i S1 eg1
      split at p1
      · rename_i S2 eg2
        cases r1 with
        | p rd => exact ⟨S, M1, h1, d, S1, sr1, hr1, rd, eg1, fun σ' sr' _ => ⟨S1, M1, h1, d, S2, sr', hr1, rd, eg2, fun σ2 sr2 _ => p1 M1 H1 σ2 .refl hr1 sr2⟩⟩
      · exact p1.elim
    · exact p1.elim
  · exact p1.elim
/-! ### (a, b) = a tuple or a list -/
theorem PG.or {tg : Expr} {t t' : TG} (h : PG X tg t) (h' : PG X tg t') : PG X tg (fun v σ H Q => t v σ H Q ∨ t' v σ H Q) :=
  ⟨fun pins s σ H v u Q I r q => q.elim (h.run pins s σ H v u Q I r) (h'.run pins s σ H v u Q I r)⟩
def seqD : P → Option (List P)
  | .tup ds => some ds
  | .lst ds => some ds
  | _ => none
def gU (n : Nat) (r : MGs) : MG := fun d S => match seqD d with
  | some ds => if ds.length = n then r ds S else none
  | none => none
theorem sim_gU {es : List Expr} {js : List Nat} {r : MGs} {n k : Nat} (hc : X.calm = true) (h : SimGs T X es js r) (hn : (assignEach es X.env).length = n := by rfl) (hst : (assignEach es X.env).findIdx? (·.1) = none := by rfl) : SimG T X (.Tuple es k pos) js (gU n r) := by
  refine PG.weak (EV.PG.or (pg_tup hc h hn hst) (pg_unl hc h hn hst)) fun v σ H Q ⟨S, M, h, d, S', sr, hr, rd, e, q⟩ => ?_
  unfold gU at e
  split at e
  · rename_i ds ed
    split at e
    · rename_i hl
      unfold seqD at ed
      split at ed
      · cases ed
        cases rd with
        | tup ht ra => exact .inl ⟨_, _, rfl, ht.sqT, by rw [← ra.length]; exact hl, S, M, h, _, S', sr, hr, ra, e, q⟩
      · cases ed
        cases rd with
        | lst hL _ ra => exact .inr ⟨_, _, rfl, .of hL, by rw [← ra.length]; exact hl, S, M, h, _, S', sr, hr, ra, e, q⟩
      · cases ed
    · cases e
  · cases e
/-! ### what is walked: a list, a tuple, a text -/
theorem PI.or {tg e : Expr} {t t' : TI} (h : PI X tg e t) (h' : PI X tg e t') : PI X tg e (fun σ H Q => t σ H Q ∨ t' σ H Q) :=
  ⟨fun pins s σ H R I q => q.elim (h.run pins s σ H R I) (h'.run pins s σ H R I)⟩
def signs (x : Str) : List P := x.cps.toList.map fun c => .str ⟨#[c]⟩
def iAnyK (v : Vl) (h1 : Hs) : Rs Itd := match v with
  | .p (.str x) => ret (.d (signs x)) h1
  | v => iSeqK v h1
def iAny (m : ME) : MI := fun S h => bnd (m S h) iAnyK
theorem it_str {M : Trk} {H : Hp} (x : Str) : ItSim T X.K M H (.d (signs x)) (Its x) := by
  refine .of ?_
  intro i M' H' e
  refine ⟨fun d hd => ?_, fun hi => ?_⟩
  · unfold signs at hd
    rw [List.getElem?_map] at hd
    have hi : i < x.cps.size := by
      cases q : x.cps.toList[i]? with
      | none => rw [q] at hd; cases hd
      | some k =>
        have := (List.getElem?_eq_some_iff.mp q).1
        simpa using this
    have e1 : x.cps.toList[i]? = some x.cps[i] := by simp [hi]
    rw [e1] at hd
    cases hd
    refine ⟨hi, fun y H'' h hr q => ?_⟩
    obtain ⟨rfl, c, hc, rfl⟩ := q
    have e2 : c = x.cps[i] := by
      rw [Array.getElem?_eq_getElem hi] at hc
      exact (Option.some.inj hc).symm
    subst e2
    exact ⟨.refl, hr, .str _⟩
  · have : x.cps.size ≤ i := by simpa [signs] using hi
    exact this
theorem sim_iAny {tg : Expr} (h : SimE T X W e m) : SimI T X W tg e (iAny m) := by
  refine ⟨fun pins s σ H R I ⟨S, M, h0, sr, hr, p⟩ => ?_⟩
  by_cases c : ∃ x h', m S h0 = some (.ok (.p (.str x)), h')
  · obtain ⟨x, h', ex⟩ := c
    refine (pi_str h).run pins s σ H R I ⟨S, M, h0, sr, hr, ?_⟩
    have p : post T X.K (ItSim T X.K) M H (erAt T W σ) R (bnd (m S h0) iAnyK) := p
    rw [ex] at p ⊢
    intro M1 H1 y e1 hr1 r1
    cases r1 with
    | p r1 =>
      cases r1
      exact ⟨x, rfl, p M1 H1 _ e1 hr1 (it_str x)⟩
  · refine (sim_iS h).run pins s σ H R I ⟨S, M, h0, sr, hr, ?_⟩
    have e1 : iAny m S h0 = iSeq m S h0 := by
      unfold iAny iSeq
      match q : m S h0 with
      | none => rfl
      | some (.error c, h') => rfl
      | some (.ok (.ref n), h') => rfl
      | some (.ok (.p d), h') =>
        cases d with
        | str x => exact (c ⟨x, h', q⟩).elim
        | _ => rfl
    rw [← e1]; exact p
end
end EV
end T23
section T24
set_option Elab.async false
set_option linter.all false
set_option maxRecDepth 100000
namespace EV
open PySem PySem.Spec PyProof.Rows L2

section
variable {T : Tb} {X : Cx} {W : WX} {ea eb e : Expr} {a b m : ME} {pos : Pos} {k : Nat}
/-! ### repr -/
def reprOk (d : PyData) : Bool := d.showable && decide (d.depth ≤ 60) && !d.hasDict && decide (d.shown.length ≤ 16777216)
def kRepr (vs : List Vl) (h : Hs) : Rs Vl := match vs with
  | [v] => match pyV v h with
    | some d => if reprOk d = true then ret (.p (.str d.shown)) h else none
    | none => none
  | _ => none
theorem call_reprD (hr : Room k X.A) : CallR X (.builtin "repr") (fun xs H Q => ∃ x d, xs = [x] ∧ Dp X.K H x d ∧ reprOk d = true ∧ Q (.str d.shown) H) := by
  intro pins s σ H xs us Q I r h
  obtain ⟨x, d, rfl, hd, ok, q⟩ := h
  obtain ⟨u, rfl, rx⟩ := vals1 r
  obtain ⟨as, rd⟩ := Dp.reads I d x u hd rx
  simp only [reprOk, Bool.and_eq_true, decide_eq_true_eq, Bool.not_eq_true'] at ok
  obtain ⟨⟨⟨o1, o2⟩, o3⟩, o4⟩ := ok
  have o4 : d.shown.length ≤ sizeLine := o4
  have fin : ∀ (t' : Nat) (u : Tok), (fun v s' => EP X pins σ Q v s') (Value.str d.shown u) { s with toks := t' } := fun t' u => ⟨.str _, H, I.tok _, ⟨_, rfl⟩, q⟩
  have un := hr.un
  cases rd with
  | none => simp only [PyData.shown] at *; exact PySem.P.repr_of_none (fin _ _)
  | bool b => simp only [PyData.shown] at *; exact PySem.P.repr_of_bool (fin _ _)
  | int i t => simp only [PyData.shown] at *; exact PySem.P.repr_of_int (by simpa [PyData.showable] using o1) (fin _ _)
  | str x t => simp only [PyData.shown] at *; exact PySem.P.repr_of_str (fin _ _) o4
  | list h1 h2 h3 h4 => exact repr_of_reads' (.list h1 h2 h3 h4) o1 (fun z => by rw [o3] at z; cases z) hr.g (by omega) (fun _ _ e => e) (fun h' u tk kp => ⟨.str _, H, I.kept (t' := tk) kp, ⟨_, rfl⟩, q⟩) o4
  | tuple h1 h2 h3 h4 => exact repr_of_reads' (.tuple h1 h2 h3 h4) o1 (fun z => by rw [o3] at z; cases z) hr.g (by omega) (fun _ _ e => e) (fun h' u tk kp => ⟨.str _, H, I.kept (t' := tk) kp, ⟨_, rfl⟩, q⟩) o4
  | dict h1 h2 h3 h4 h5 => simp [PyData.hasDict] at o3
theorem s_repr : OpN T X.K kRepr (fun xs H Q => ∃ x d, xs = [x] ∧ Dp X.K H x d ∧ reprOk d = true ∧ Q (.str d.shown) H) := by
  intro M H h vs xs Er Q hr r p
  unfold kRepr at p
  split at p
  · split at p
    · rename_i d hd
      split at p
      · rename_i hz
        cases r with
        | cons r1 r =>
          cases r
          exact ⟨_, d, rfl, r1.dp hr hd, hz, p.ret .refl hr (.p (.str _))⟩
      · exact p.elim
    · exact p.elim
  · exact p.elim
theorem sim_repr (hr : Room k X.A) {p pos : Pos} {ma : MA} (hm : X.mg "repr" = none) (ha : SimA T X W [e] ma) (hg : Gl X "repr" := by rfl) (he : starEach [e] X.env = (false, eval e X.env) :: starEach [] X.env := by rfl) : SimE T X W (.Call (.Name "repr" p) [e] [] pos) (mAll kRepr ma) :=
  sim_callB (call_reprD hr) s_repr hg hm (by decide +kernel) ha (he := he) (hpl := rfl)
/-! ### methods of texts -/
def strsP : List P → Option (List Str)
  | [] => some []
  | .str x :: r => match strsP r with
    | some l => some (x :: l)
    | none => none
  | _ :: _ => none
theorem RpA.strs {K : PySem.W.Frag} {M : Trk} {H : Hp} : ∀ {ds : List P} {xs : List V} {l : List Str}, RpA T K M H ds xs → strsP ds = some l → xs = l.map V.str
  | _, _, _, .nil, e => by simp only [strsP, Option.some.injEq] at e; subst e; rfl
  | _, _, l, .cons (d := d) (ds := ds) (vs := vs) h r, e => by
    cases d with
    | str x =>
      simp only [strsP] at e
      split at e
      · rename_i l' q
        cases e
        cases h
        rw [RpA.strs r q]; rfl
      · cases e
    | _ => simp [strsP] at e
theorem RpA.of_strs {K : PySem.W.Frag} {M : Trk} {H : Hp} : ∀ (l : List Str), RpA T K M H (l.map P.str) (l.map V.str)
  | [] => .nil
  | x :: l => .cons (.str x) (RpA.of_strs l)
def fJoin (v : Vl) (vs : List Vl) (h : Hs) : Rs Vl := match v, vs with
  | .p (.str a), [w] => match seqV w h with
    | some ds => match strsP ds with
      | some l => if (l.map (·.length)).sum + l.length * a.length ≤ 16777216 then ret (.p (.str (Txt.join a l))) h else none
      | none => none
    | none => none
  | _, _ => none
theorem s_join : MtS T X.K fJoin (fun x xs H Q => ∃ a p, ∃ ys : List Str, x = .str a ∧ xs = [.ref p] ∧ (SqL X.K H p (ys.map V.str) ∨ SqT X.K H p (ys.map V.str)) ∧ (ys.map (·.length)).sum + ys.length * a.length ≤ 16777216 ∧ Q (.str (Txt.join a ys)) H) := by
  intro M H h v x vs xs Er Q hr rx r p
  unfold fJoin at p
  split at p
  · rename_i a w
    split at p
    · rename_i ds q
      split at p
      · rename_i l ql
        split at p
        · rename_i hz
          cases rx with
          | p rx =>
            cases rx
            cases r with
            | cons r1 r =>
              cases r
              obtain ⟨ad, ys, rfl, hs, ra⟩ := r1.seqV hr q
              have e := ra.strs ql
              subst e
              exact ⟨a, ad, l, rfl, rfl, hs, hz, p.ret .refl hr (.p (.str _))⟩
        · exact p.elim
      · exact p.elim
    · exact p.elim
  · exact p.elim
def fSplit (v : Vl) (vs : List Vl) (h : Hs) : Rs Vl := match v, vs with
  | .p (.str a), [.p (.str b)] => if (b.length == 0) = false ∧ a.length + 2 ≤ 16777216 then ret (.p (.lst ((Txt.split a b).map P.str))) h else none
  | _, _ => none
theorem s_split : MtS T X.K fSplit (fun x xs H Q => ∃ a b, x = .str a ∧ xs = [.str b] ∧ (b.length == 0) = false ∧ a.length + 2 ≤ sizeLine ∧ rNewStrs (Txt.split a b) H Q) := by
  intro M H h v x vs xs Er Q hr rx r p
  unfold fSplit at p
  split at p
  · split at p
    · rename_i hz
      cases rx with
      | p rx =>
        cases rx
        cases r with
        | cons r1 r =>
          cases r
          cases r1 with
          | p r1 =>
            cases r1
            exact ⟨_, _, rfl, rfl, hz.1, hz.2, fun q hq => p.ret (.fresh hq) (hr.fresh hq) (new_lst hr hq (.of_strs _))⟩
    · exact p.elim
  · exact p.elim
def fEndsW (v : Vl) (vs : List Vl) (h : Hs) : Rs Vl := match v, vs with
  | .p (.str a), [.p (.str b)] => ret (.p (.bl (Txt.endswith a b))) h
  | _, _ => none
theorem s_endsW : MtS T X.K fEndsW (fun x xs H Q => ∃ a b, x = .str a ∧ xs = [.str b] ∧ Q (.bl (Txt.endswith a b)) H) := by
  intro M H h v x vs xs Er Q hr rx r p
  unfold fEndsW at p
  split at p
  · cases rx with
    | p rx =>
      cases rx
      cases r with
      | cons r1 r =>
        cases r
        cases r1 with
        | p r1 => cases r1; exact ⟨_, _, rfl, rfl, p.ret .refl hr (.p (.bl _))⟩
  · exact p.elim
section
variable {mo : ME} {ma : MA} {o : Expr} {apos cpos : Pos}
theorem sim_join (ho : SimE T X W o mo) (ha : SimA T X W [e] ma) (hbase : attributeBase o "join" X.env (eval o X.env) = eval o X.env := by rfl)
    (hfew : ((backTo cpos (starEach [e] X.env)).all (fun x => !x.1) && (backToKw cpos (keywordEach [] X.env)).all (fun x => x.1.isSome)
      && decide ([e].length + ([] : List Keyword).length + (if ([] : List Keyword).isEmpty then 0 else 1) < 30)) = true := by rfl)
    (hline : (apos.endLine == cpos.line) = true := by rfl) (hs : starEach [e] X.env = (false, eval e X.env) :: starEach [] X.env := by rfl) (hpl : (backTo cpos (starEach [] X.env)).any (·.1) = false := by rfl) :
    SimE T X W (.Call (.Attribute o "join" apos) [e] [] cpos) (mMethS fJoin mo ma) := sim_methS PySem.F.slot_str_join PySem.F.type_str_join mt_join s_join ho ha hbase hfew hline hs hpl
theorem sim_split (ho : SimE T X W o mo) (ha : SimA T X W [e] ma) (hbase : attributeBase o "split" X.env (eval o X.env) = eval o X.env := by rfl)
    (hfew : ((backTo cpos (starEach [e] X.env)).all (fun x => !x.1) && (backToKw cpos (keywordEach [] X.env)).all (fun x => x.1.isSome)
      && decide ([e].length + ([] : List Keyword).length + (if ([] : List Keyword).isEmpty then 0 else 1) < 30)) = true := by rfl)
    (hline : (apos.endLine == cpos.line) = true := by rfl) (hs : starEach [e] X.env = (false, eval e X.env) :: starEach [] X.env := by rfl) (hpl : (backTo cpos (starEach [] X.env)).any (·.1) = false := by rfl) :
    SimE T X W (.Call (.Attribute o "split" apos) [e] [] cpos) (mMethS fSplit mo ma) := sim_methS PySem.F.slot_str_split PySem.F.type_str_split mt_split s_split ho ha hbase hfew hline hs hpl
theorem sim_endsW (ho : SimE T X W o mo) (ha : SimA T X W [e] ma) (hbase : attributeBase o "endswith" X.env (eval o X.env) = eval o X.env := by rfl)
    (hfew : ((backTo cpos (starEach [e] X.env)).all (fun x => !x.1) && (backToKw cpos (keywordEach [] X.env)).all (fun x => x.1.isSome)
      && decide ([e].length + ([] : List Keyword).length + (if ([] : List Keyword).isEmpty then 0 else 1) < 30)) = true := by rfl)
    (hline : (apos.endLine == cpos.line) = true := by rfl) (hs : starEach [e] X.env = (false, eval e X.env) :: starEach [] X.env := by rfl) (hpl : (backTo cpos (starEach [] X.env)).any (·.1) = false := by rfl) :
    SimE T X W (.Call (.Attribute o "endswith" apos) [e] [] cpos) (mMethS fEndsW mo ma) := sim_methS PySem.F.slot_str_endswith PySem.F.type_str_endswith mt_endswith s_endsW ho ha hbase hfew hline hs hpl
end
/-! ### int(text) -/
def kInt2 (vs : List Vl) (h : Hs) : Rs Vl := match vs with
  | [.p (.str a)] => match PySem.intText? a with
    | some n => if a.length ≤ 640 then ret (.p (.int n)) h else none
    | none => none
  | vs => kInt vs h
theorem CallR.or {f : Value} {r r' : List V → Hp → VK → Prop} (h : CallR X f r) (h' : CallR X f r') : CallR X f (fun xs H Q => r xs H Q ∨ r' xs H Q) := by
  intro pins s σ H xs us Q I rs q
  rcases q with q | q
  · exact h pins s σ H xs us Q I rs q
  · exact h' pins s σ H xs us Q I rs q
end
end EV
end T24
section T25
set_option Elab.async false
set_option linter.all false
set_option maxRecDepth 100000
namespace EV
open PySem PySem.Spec PyProof.Rows L2

section
variable {T : Tb} {X : Cx} {W : WX} {ea eb e e2 : Expr} {a b m : ME} {pos : Pos} {k : Nat}
theorem s_int2 : OpN T X.K kInt2 (fun xs H Q => (∃ a n, xs = [.str a] ∧ PySem.intText? a = some n ∧ a.length ≤ 640 ∧ Q (.int n) H) ∨ ((∃ i, xs = [.int i] ∧ Q (.int i) H) ∨ ∃ k, xs = [.bl k] ∧ Q (.int (if k then 1 else 0)) H)) := by
  intro M H h vs xs Er Q hr r p
  unfold kInt2 at p
  split at p
  · split at p
    · rename_i n en
      split at p
      · rename_i hz
        cases r with
        | cons r1 r =>
          cases r
          cases r1 with
          | p r1 => cases r1; exact .inl ⟨_, n, rfl, en, hz, p.ret .refl hr (.p (.int _))⟩
      · exact p.elim
    · exact p.elim
  · exact .inr (s_int M H h _ xs Er Q hr r p)
theorem sim_int2 {p : Pos} {ma : MA} (hm : X.mg "int" = none) (ha : SimA T X W [e] ma) (hg : Gl X "int" := by rfl) (he : starEach [e] X.env = (false, eval e X.env) :: starEach [] X.env := by rfl) : SimE T X W (.Call (.Name "int" p) [e] [] pos) (mAll kInt2 ma) :=
  sim_callTy (CallR.or call_int_str call_int1) s_int2 hg hm (PyProof.Rows.boot_int) ha (he := he) (hpl := rfl)

/-! ### zip(a, b) -/
def zipP : List P → List P → List P
  | d :: ds, e :: es => .tup [d, e] :: zipP ds es
  | _, _ => []
theorem zipP_at : ∀ (ds es : List P) (i : Nat), (zipP ds es)[i]? = match ds[i]?, es[i]? with
    | some d, some e => some (.tup [d, e])
    | _, _ => none
  | [], es, i => by simp [zipP]
  | d :: ds, [], i => by
    simp only [zipP, List.getElem?_nil]
    split <;> simp_all
  | d :: ds, e :: es, 0 => by simp [zipP]
  | d :: ds, e :: es, i + 1 => by simpa [zipP] using zipP_at ds es i
theorem zipP_len (ds es : List P) : (zipP ds es).length = min ds.length es.length := by
  induction ds generalizing es with
  | nil => simp [zipP]
  | cons d ds ih =>
    cases es with
    | nil => simp [zipP]
    | cons e es => simp only [zipP, List.length_cons, ih]; omega
def iZip2 (a : MA) : MI := fun S h => bnd (a S h) fun vs h1 => match vs with
  | [.p (.tup ds), .p (.tup es)] => ret (.d (zipP ds es)) h1
  | [.p (.lst ds), .p (.lst es)] => ret (.d (zipP ds es)) h1
  | _ => none
theorem sim_iZip2 {ma : MA} {p tpos : Pos} {elts : List Expr} {kk : Nat} (hm : X.mg "zip" = none) (ha : SimA T X W [e, e2] ma) (hg : Gl X "zip" := by rfl)
    (hs : starEach [e, e2] X.env = (false, eval e X.env) :: starEach [e2] X.env := by rfl) (hpl : (backTo pos (starEach [e2] X.env)).any (·.1) = false := by rfl) :
    SimI T X W (.Tuple elts kk tpos) (.Call (.Name "zip" p) [e, e2] [] pos) (iZip2 ma) := by
  refine PI.weak (RZ.pi_zipA hg hm ha hs hpl) fun σ H Q ⟨S, M, h, sr, hr, p⟩ => trA_then sr hr p fun vs h1 M1 H1 xs e1 sr1 hr1 r1 p1 => ?_
  split at p1
  · rename_i ds es
    cases r1 with
    | cons ra r1 =>
      cases r1 with
      | cons rb r1 =>
        cases r1
        cases ra with
        | p ra =>
          cases rb with
          | p rb =>
            cases ra with
            | tup la ra =>
              rename_i a1 xs
              cases rb with
              | tup lb rb =>
                rename_i b1 ys
                refine ⟨a1, b1, xs, ys, rfl, .inr ⟨la.sqT, lb.sqT, p1.ret .refl hr1 (ItSim.of fun i M' H' e => ⟨fun d hd => ?_, fun hi => ?_⟩)⟩⟩
                · rw [zipP_at] at hd
                  split at hd
                  · rename_i u v hu hv
                    cases hd
                    obtain ⟨x, hx, rx⟩ := ra.get hu
                    obtain ⟨y, hy, ry⟩ := rb.get hv
                    refine ⟨⟨xs, ys, x, y, (la.extB e).sqT, (lb.extB e).sqT, hx, hy⟩, fun z H'' h hr q => ?_⟩
                    obtain ⟨t, x', y', rfl, ht, rfl, q1, q2⟩ := q
                    have ex : x' = x := Option.some.inj ((q1 xs (la.extB e).sqT).symm.trans hx)
                    have ey : y' = y := Option.some.inj ((q2 ys (lb.extB e).sqT).symm.trans hy)
                    subst ex ey
                    refine ⟨.fresh ht, hr.fresh ht, ?_⟩
                    have z := new_tup hr ht (ds := [u, v]) (xs := [x', y']) (.cons (rx.extB e) (.cons (ry.extB e) .nil))
                    cases z with | p z => exact z
                  · cases hd
                · rw [zipP_len] at hi
                  exact ⟨xs, ys, (la.extB e).sqT, (lb.extB e).sqT, by rw [← ra.length, ← rb.length]; omega⟩
  · rename_i ds es
    cases r1 with
    | cons ra r1 =>
      cases r1 with
      | cons rb r1 =>
        cases r1
        cases ra with
        | p ra =>
          cases rb with
          | p rb =>
            cases ra with
            | lst la na ra =>
              rename_i a1 xs
              cases rb with
              | lst lb nb rb =>
                rename_i b1 ys
                have ka : ∀ M' H', ExtB M1 H1 M' H' → SqL X.K H' a1 xs := fun M' H' e => .of (e.kept _ _ la na)
                have kb : ∀ M' H', ExtB M1 H1 M' H' → SqL X.K H' b1 ys := fun M' H' e => .of (e.kept _ _ lb nb)
                refine ⟨a1, b1, xs, ys, rfl, .inl ⟨.of la, .of lb, p1.ret .refl hr1 (ItSim.of fun i M' H' e => ⟨fun d hd => ?_, fun hi => ?_⟩)⟩⟩
                · rw [zipP_at] at hd
                  split at hd
                  · rename_i u v hu hv
                    cases hd
                    obtain ⟨x, hx, rx⟩ := ra.get hu
                    obtain ⟨y, hy, ry⟩ := rb.get hv
                    refine ⟨⟨xs, ys, x, y, ka _ _ e, kb _ _ e, hx, hy⟩, fun z H'' h hr q => ?_⟩
                    obtain ⟨t, x', y', rfl, ht, rfl, q1, q2⟩ := q
                    have ex : x' = x := Option.some.inj ((q1 xs (ka _ _ e)).symm.trans hx)
                    have ey : y' = y := Option.some.inj ((q2 ys (kb _ _ e)).symm.trans hy)
                    subst ex ey
                    refine ⟨.fresh ht, hr.fresh ht, ?_⟩
                    have z := new_tup hr ht (ds := [u, v]) (xs := [x', y']) (.cons (rx.extB e) (.cons (ry.extB e) .nil))
                    cases z with | p z => exact z
                  · cases hd
                · rw [zipP_len] at hi
                  exact ⟨xs, ys, ka _ _ e, kb _ _ e, by rw [← ra.length, ← rb.length]; omega⟩
  · exact p1.elim
/-! ### enumerate(a list or a tuple) -/
def iEnumA (a : MA) : MI := fun S h => bnd (a S h) fun vs h1 => match vs with
  | [.p (.tup ds)] => ret (.d (enumP ds)) h1
  | [.p (.lst ds)] => ret (.d (enumP ds)) h1
  | _ => none
def iEnumL (a : MA) : MI := fun S h => bnd (a S h) fun vs h1 => match vs with
  | [.p (.lst ds)] => ret (.d (enumP ds)) h1
  | _ => none
theorem enumP_at {ds : List P} {i : Nat} {d : P} (hd : (enumP ds)[i]? = some d) : ∃ u, ds[i]? = some u ∧ d = .tup [.int i, u] := by
  have hlt : i < ds.length := by
    have q := (List.getElem?_eq_some_iff.mp hd).1
    simpa [enumP] using q
  refine ⟨ds[i], List.getElem?_eq_getElem hlt, ?_⟩
  unfold enumP at hd
  rw [List.getElem?_mapIdx, List.getElem?_eq_getElem hlt] at hd
  exact (Option.some.inj hd).symm
theorem sim_iEnumL {ma : MA} {p tpos : Pos} {elts : List Expr} {kk : Nat} (hm : X.mg "enumerate" = none) (ha : SimA T X W [e] ma) (hg : Gl X "enumerate" := by rfl) (hs : starEach [e] X.env = [(false, eval e X.env)] := by rfl) :
    SimI T X W (.Tuple elts kk tpos) (.Call (.Name "enumerate" p) [e] [] pos) (iEnumL ma) := by
  refine PI.weak (pi_enum hg hm ha hs) fun σ H Q ⟨S, M, h, sr, hr, p⟩ => trA_then sr hr p fun vs h1 M1 H1 xs e1 sr1 hr1 r1 p1 => ?_
  split at p1
  · rename_i ds
    cases r1 with
    | cons ra r1 =>
      cases r1
      cases ra with
      | p ra =>
        cases ra with
        | lst la na ra =>
          rename_i a1 xs
          have ka : ∀ M' H', ExtB M1 H1 M' H' → SqL X.K H' a1 xs := fun M' H' e => .of (e.kept _ _ la na)
          refine ⟨a1, xs, rfl, .of la, p1.ret .refl hr1 (ItSim.of fun i M' H' e => ⟨fun d hd => ?_, fun hi => ?_⟩)⟩
          · obtain ⟨u, hu, rfl⟩ := enumP_at hd
            obtain ⟨x, hx, rx⟩ := ra.get hu
            refine ⟨⟨xs, x, ka _ _ e, hx⟩, fun z H'' h hr q => ?_⟩
            obtain ⟨t, x', rfl, ht, rfl, q1⟩ := q
            have ex : x' = x := Option.some.inj ((q1 xs (ka _ _ e)).symm.trans hx)
            subst ex
            refine ⟨.fresh ht, hr.fresh ht, ?_⟩
            have z := new_tup hr ht (ds := [.int (i : Int), u]) (xs := [.int (i : Int), x']) (.cons (.int _) (.cons (rx.extB e) .nil))
            cases z with | p z => exact z
          · exact ⟨xs, ka _ _ e, by rw [← ra.length]; simpa [enumP] using hi⟩
  · exact p1.elim
theorem sim_iEnumA {ma : MA} {p tpos : Pos} {elts : List Expr} {kk : Nat} (hm : X.mg "enumerate" = none) (ha : SimA T X W [e] ma) (hg : Gl X "enumerate" := by rfl) (hs : starEach [e] X.env = [(false, eval e X.env)] := by rfl) :
    SimI T X W (.Tuple elts kk tpos) (.Call (.Name "enumerate" p) [e] [] pos) (iEnumA ma) := by
  refine ⟨fun pins s σ H R I ⟨S, M, h0, sr, hr, p⟩ => ?_⟩
  by_cases c : ∃ ds h', ma S h0 = some (.ok [.p (.lst ds)], h')
  · obtain ⟨ds, h', ex⟩ := c
    refine (sim_iEnumL hm ha hg hs).run pins s σ H R I ⟨S, M, h0, sr, hr, ?_⟩
    have e1 : iEnumA ma S h0 = iEnumL ma S h0 := by unfold iEnumA iEnumL; rw [ex]; rfl
    rw [← e1]; exact p
  · refine (sim_iEnumT hm ha hg hs).run pins s σ H R I ⟨S, M, h0, sr, hr, ?_⟩
    have e1 : iEnumA ma S h0 = iEnumT ma S h0 := by
      unfold iEnumA iEnumT
      match q : ma S h0 with
      | none => rfl
      | some (.error c, h') => rfl
      | some (.ok vs, h') =>
        simp only [bnd]
        split
        · rfl
        · exact (c ⟨_, h', q⟩).elim
        · rename_i n1 n2
          split
          · exact (n1 _ rfl).elim
          · rfl
    rw [← e1]; exact p
end
end EV
end T25
section T26
set_option Elab.async false
set_option linter.all false
set_option maxRecDepth 100000
namespace EV
open PySem PySem.Spec PyProof.Rows L2

/-! ### [e for x in a if .. for y in b if ..] -/
def comp2L (g : MG) (tt : MT) (mi1 : MI) (g1 : MG) (tt1 : MT) (te : ME) (S : Sl) (vs1 : List Nat) (I : Itd) : Nat → Nat → List P → Hs → Rs (List P)
  | 0, i, acc, h => match I.at i h with
    | some none => ret acc h
    | _ => none
  | k + 1, i, acc, h => match I.at i h with
    | none => none
    | some none => ret acc h
    | some (some d) => match g d S with
      | none => none
      | some S1 => bnd (noErr (tt S1 h)) fun b h1 => if b = true then
          bnd (noErr (mi1 S1 h1)) fun I1 h2 => if acc.length + I1.len h2 ≤ 16777216 then bnd (compL g1 tt1 te (wipeS S1 vs1) I1 (I1.len h2) 0 h2) fun ys h3 => comp2L g tt mi1 g1 tt1 te S vs1 I k (i + 1) (acc ++ ys) h3 else none
        else comp2L g tt mi1 g1 tt1 te S vs1 I k (i + 1) acc h1
def mComp2 (mi : MI) (g : MG) (tt : MT) (mi1 : MI) (g1 : MG) (tt1 : MT) (te : ME) (vs vs1 : List Nat) : ME := fun S h => bnd (mi S h) fun I h1 => bnd (comp2L g tt mi1 g1 tt1 te (wipeS S vs) vs1 I (I.len h1) 0 [] h1) fun ys h2 => ret (.p (.lst ys)) h2
section
variable {T : Tb} {K : PySem.W.Frag} {M M1 M2 : Trk} {H H1 H2 : Hp}
theorem ExtB.step (e : ExtB M H M1 H1) (f : Ext M1 H1 M2 H2) : ExtB M H M2 H2 :=
  ⟨fun n a h => f.get (e.get n a h), fun a o h n => f.kept (e.kept a o h n) (e.out a o h n), fun a o h n => f.out (e.kept a o h n) (e.out a o h n), fun m h => f.mms m (e.mms m h)⟩
theorem ExtB.updB (e : ExtB M H M1 H1) {D : Addr} (hb : D ∈ M.no) (o : HO) : ExtB M H M1 (L2.upd H1 D o) :=
  ⟨e.get, fun a u h n => by rw [upd_ne (fun z => n (by rw [z]; exact hb))]; exact e.kept a u h n, e.out, e.mms⟩
theorem RV.extB (e : ExtB M H M1 H1) {d : Vl} {v : V} (h : RV T K M H d v) : RV T K M1 H1 d v := by
  cases h with
  | p h => exact .p (h.extB e)
  | ref h => exact .ref (e.get _ _ h)
theorem SR.extB {S : Sl} {σ : L2.St} (s : SR T K M H S σ) (e : ExtB M H M1 H1) : SR T K M1 H1 S σ :=
  ⟨s.len, fun i v h => let ⟨x, a, b⟩ := s.at' i v h; ⟨x, a, b.extB e⟩⟩
end
section
variable {T : Tb} {X : Cx} {W : WX}
theorem comp2_reads {mi mi1 : MI} {g g1 : MG} {tt tt1 : MT} {te : ME} {js js1 vs vs1 : List Nat} (hv : ∀ j ∈ js, j ∈ vs) (hv1 : ∀ j ∈ js1, j ∈ vs1) {σ : L2.St} {H : Hp} {Q : VK} {K : PySem.W.Frag} (q : tr T K W (mComp2 mi g tt mi1 g1 tt1 te vs vs1) σ H Q) :
    tLc2 (trI T K W mi) (trG T K js g) (trT T K W0 tt) (trI T K W0 mi1) (trG T K js1 g1) (trT T K W0 tt1) (tr T K W0 te) vs vs1 σ H Q := by
  obtain ⟨S, M, h, sr, hr, p⟩ := q
  refine ⟨S, M, h, sr, hr, p.bnd fun I h1 M1 H1 J e1 hr1 r1 p1 => fun D hD => ?_⟩
  have nD : D ∉ M1.no := hr1.none_out hD
  have sr1 := sr.ext e1
  let Fin : Rs (List P) → Prop := fun r => post T K (RV T K) M1 H1 (erAt T W σ) Q (bnd r fun ys h2 => ret (.p (.lst ys)) h2)
  let Rest : Nat → Nat → Hs → List P → Prop := fun m i h' acc => Fin (comp2L g tt mi1 g1 tt1 te (wipeS S vs) vs1 I m i acc h')
  refine ⟨fun i m H' => ∃ M' h' acc xs, CompI T K M1 H1 D M' H' h' acc xs ∧ Rest m i h' acc,
    ⟨I.len h1, M1.bar D, h1, [], [], ⟨.bar hD, hr1.bar hD, List.mem_append_right _ (by simp), upd_same, hr1.none_out' hD, .nil⟩, p1⟩, ?_⟩
  rintro i m H2 ⟨M2, h2, acc, xs, c2, p2⟩
  obtain ⟨q1, q2⟩ := r1 i M2 H2 h2 c2.ext.b c2.hr
  have p2 : Fin (comp2L g tt mi1 g1 tt1 te (wipeS S vs) vs1 I m i acc h2) := p2
  cases hat : I.at i h2 with
  | none => cases m <;> (simp only [comp2L, hat] at p2; exact p2.elim)
  | some o =>
    cases o with
    | none =>
      refine .inl ⟨q2 hat, ?_⟩
      have p3 : post T K (RV T K) M1 H1 (erAt T W σ) Q (ret (.p (.lst acc)) h2) := by
        cases m <;> (simp only [comp2L, hat] at p2; exact p2)
      obtain ⟨a1, a2, a3⟩ := c2.done hD nD
      exact p3.ret a1 a2 a3
    | some d =>
      cases m with
      | zero => simp only [comp2L, hat] at p2; exact p2.elim
      | succ m =>
        refine .inr ?_
        obtain ⟨go, yl⟩ := q1 d hat
        refine ⟨go, fun H' => ∃ M' h' acc xs, CompI T K M1 H1 D M' H' h' acc xs ∧ Rest m (i + 1) h' acc, ?_, fun x H' hy => ?_⟩
        · rintro H' ⟨M', h', ac, xs', a1, a2⟩
          exact ⟨m, Nat.lt_succ_self _, M', h', ac, xs', a1, a2⟩
        · obtain ⟨e3, hr3, rx⟩ := yl x H' hy
          simp only [comp2L, hat] at p2
          cases eg : g d (wipeS S vs) with
          | none => rw [eg] at p2; exact p2.elim
          | some S3 =>
            rw [eg] at p2
            dsimp only at p2
            have c3 := c2.step e3 hr3
            have srw : SR T K M2 H' (wipeS S vs) (L2.wipe σ vs) := (sr1.ext c3.ext).wipe vs
            refine ⟨wipeS S vs, M2, h2, d, S3, srw, hr3, rx, eg, fun σ3 sr3 w3 => ?_⟩
            refine ⟨by rw [w3 vs hv, wipe_wipe], S3, M2, h2, sr3, hr3, ?_⟩
            have p2 : post T K (RV T K) M1 H1 (erAt T W σ) Q (bnd (bnd (noErr (tt S3 h2)) fun b h1 => if b = true then
              bnd (noErr (mi1 S3 h1)) fun I1 h2 => if acc.length + I1.len h2 ≤ 16777216 then bnd (compL g1 tt1 te (wipeS S3 vs1) I1 (I1.len h2) 0 h2) fun ys h3 => comp2L g tt mi1 g1 tt1 te (wipeS S vs) vs1 I m (i + 1) (acc ++ ys) h3 else none
              else comp2L g tt mi1 g1 tt1 te (wipeS S vs) vs1 I m (i + 1) acc h1) fun ys h2 => ret (.p (.lst ys)) h2) := p2
            rw [bnd_bnd] at p2
            refine post_bndE p2 fun b h3 M3 H3 x3 e4 hr4 r4 p5 => ?_
            cases (r4 : b = x3)
            have c4 := c3.step e4 hr4
            cases b with
            | false => exact ⟨M3, h3, acc, xs, c4, by simpa using p5⟩
            | true =>
              refine ⟨S3, M3, h3, sr3.ext e4, hr4, ?_⟩
              simp only [if_true] at p5
              rw [bnd_bnd] at p5
              refine post_bndE p5 fun I1 h4 M4 H4 J1 e5 hr5 r5 p7 => ?_
              have c5 := c4.step e5 hr5
              have sr4 := (sr3.ext e4).ext e5
              by_cases hz : acc.length + I1.len h4 ≤ 16777216
              · rw [if_pos hz] at p7
                -- the inner turns
                let Rest1 : Nat → Nat → Hs → List P → Prop := fun m1 j h' ac => Fin (bnd (compL g1 tt1 te (wipeS S3 vs1) I1 m1 j h') fun ys h3 => comp2L g tt mi1 g1 tt1 te (wipeS S vs) vs1 I m (i + 1) (ac ++ ys) h3)
                have bD : D ∈ M4.no := c5.bar
                have lacc : ∀ {ac : List P} {ys : List V} {M' H' h'}, CompI T K M1 H1 D M' H' h' ac ys → ys.length = ac.length := fun c => c.r.length.symm
                refine ⟨fun j m1 H' => ∃ M' h' ac ys, j + m1 = I1.len h4 ∧ ac.length ≤ acc.length + j ∧ CompI T K M1 H1 D M' H' h' ac ys ∧ ExtB M4 H4 M' H' ∧ Rest1 m1 j h' ac,
                  ⟨I1.len h4, M4, h4, acc, xs, Nat.zero_add _, Nat.le_refl _, c5, Ext.refl.b, p7⟩, ?_⟩
                rintro j m1 H5 ⟨M5, h5, ac, ys, hj, hac, c6, eb, p8⟩
                obtain ⟨q3, q4⟩ := r5 j M5 H5 h5 eb c6.hr
                have p8 : Fin (bnd (compL g1 tt1 te (wipeS S3 vs1) I1 m1 j h5) fun ys h3 => comp2L g tt mi1 g1 tt1 te (wipeS S vs) vs1 I m (i + 1) (ac ++ ys) h3) := p8
                cases hat1 : I1.at j h5 with
                | none => cases m1 <;> (simp only [compL, hat1] at p8; exact p8.elim)
                | some o1 =>
                  cases o1 with
                  | none =>
                    refine .inl ⟨q4 hat1, M5, h5, ac, ys, c6, ?_⟩
                    cases m1 <;> (simp only [compL, hat1, bnd_ret, List.append_nil] at p8; exact p8)
                  | some d1 =>
                    cases m1 with
                    | zero => simp only [compL, hat1] at p8; exact p8.elim
                    | succ m1 =>
                      obtain ⟨go1, yl1⟩ := q3 d1 hat1
                      refine .inr ⟨go1, fun H' => ∃ M' h' ac ys, ac.length ≤ acc.length + (j + 1) ∧ CompI T K M1 H1 D M' H' h' ac ys ∧ ExtB M4 H4 M' H' ∧ Rest1 m1 (j + 1) h' ac, ?_, fun x1 H6 hy1 => ?_⟩
                      · rintro H' ⟨M', h', ac', ys', a0, a1, a2, a3⟩
                        exact ⟨m1, Nat.lt_succ_self _, M', h', ac', ys', by omega, a0, a1, a2, a3⟩
                      · obtain ⟨e6, hr6, rx1⟩ := yl1 x1 H6 hy1
                        simp only [compL, hat1] at p8
                        cases eg1 : g1 d1 (wipeS S3 vs1) with
                        | none => rw [eg1] at p8; exact p8.elim
                        | some S5 =>
                          rw [eg1] at p8
                          dsimp only at p8
                          have c7 := c6.step e6 hr6
                          have eb7 := eb.step e6
                          have sw1 : SR T K M5 H6 (wipeS S3 vs1) (L2.wipe σ3 vs1) := (sr4.extB eb7).wipe vs1
                          refine ⟨wipeS S3 vs1, M5, h5, d1, S5, sw1, hr6, rx1, eg1, fun σ5 sr5 w5 => ?_⟩
                          refine ⟨by rw [w5 vs1 hv1, wipe_wipe], S5, M5, h5, sr5, hr6, ?_⟩
                          have p8 : post T K (RV T K) M1 H1 (erAt T W σ) Q (bnd (bnd (bnd (noErr (tt1 S5 h5)) fun b h1 => if b = true then bnd (noErr (te S5 h1)) fun v h2 => (match v with
                              | .p y => bnd (compL g1 tt1 te (wipeS S3 vs1) I1 m1 (j + 1) h2) fun ys h3 => ret (y :: ys) h3
                              | .ref _ => none)
                              else compL g1 tt1 te (wipeS S3 vs1) I1 m1 (j + 1) h1) fun ys h3 => comp2L g tt mi1 g1 tt1 te (wipeS S vs) vs1 I m (i + 1) (ac ++ ys) h3) fun ys h2 => ret (.p (.lst ys)) h2) := p8
                          rw [bnd_bnd, bnd_bnd] at p8
                          refine post_bndE p8 fun b1 h6 M6 H7 b1' e7 hr7 r7 p9 => ?_
                          cases (r7 : b1 = b1')
                          have c8 := c7.step e7 hr7
                          have eb8 := eb7.step e7
                          cases b1 with
                          | false =>
                            refine ⟨M6, h6, ac, ys, by omega, c8, eb8, ?_⟩
                            show post T K (RV T K) M1 H1 (erAt T W σ) Q (bnd (bnd (compL g1 tt1 te (wipeS S3 vs1) I1 m1 (j + 1) h6) fun ys h3 => comp2L g tt mi1 g1 tt1 te (wipeS S vs) vs1 I m (i + 1) (ac ++ ys) h3) fun ys h2 => ret (.p (.lst ys)) h2)
                            rw [bnd_bnd]
                            simpa using p9
                          | true =>
                            refine ⟨S5, M6, h6, sr5.ext e7, hr7, ?_⟩
                            simp only [if_true] at p9
                            rw [bnd_bnd] at p9
                            refine post_bndE p9 fun v1 h7 M7 H8 y1 e8 hr8 r8 pA => ?_
                            have c9 := c8.step e8 hr8
                            have eb9 := eb8.step e8
                            cases r8 with
                            | ref _ => exact pA.elim
                            | p ry =>
                              rename_i yd
                              have lx := lacc c9
                              refine ⟨ys, c9.at', lt_line (by omega), M7, h7, ac ++ [yd], ys ++ [y1], by simp; omega, c9.push hD ry, eb9.updB bD _, ?_⟩
                              dsimp only at pA
                              rw [bnd_bnd] at pA
                              show post T K (RV T K) M1 H1 (erAt T W σ) Q (bnd (bnd (compL g1 tt1 te (wipeS S3 vs1) I1 m1 (j + 1) h7) fun ys h3 => comp2L g tt mi1 g1 tt1 te (wipeS S vs) vs1 I m (i + 1) ((ac ++ [yd]) ++ ys) h3) fun ys h2 => ret (.p (.lst ys)) h2)
                              rw [bnd_bnd]
                              simpa [bnd_ret] using pA
              · rw [if_neg hz] at p7; exact p7.elim
theorem sim_lc2 {elt tg iter tg1 iter1 : Expr} {ifs ifs1 : List Expr} {scope : Scope} (own : List (Str × Nat)) (vs1 : List Nat) {pos : Pos} {mi mi1 : MI} {js js1 : List Nat} {g g1 : MG} {tt tt1 : MT} {te : ME} (hc : X.calm = true) (hN : X.N.Nodup) (hi : SimI T X W tg iter mi) (ok : BlkOk X.N X.env.scope scope own)
    (hg : ∀ (s : Shared) (H : Hp) (C : Addr) (cl : List (Str × Addr)) (fp : List Addr), SimG T (X.blk s H scope (compEnvC scope cl C X.env) fp) tg js g)
    (ht : ∀ (s : Shared) (H : Hp) (C : Addr) (cl : List (Str × Addr)) (fp : List Addr), SimTs T (X.blk s H scope (compEnvC scope cl C X.env) fp) W0 ifs tt)
    (hi1 : ∀ (s : Shared) (H : Hp) (C : Addr) (cl : List (Str × Addr)) (fp : List Addr), SimI T (X.blk s H scope (compEnvC scope cl C X.env) fp) W0 tg1 iter1 mi1)
    (hg1 : ∀ (s : Shared) (H : Hp) (C : Addr) (cl : List (Str × Addr)) (fp : List Addr), SimG T (X.blk s H scope (compEnvC scope cl C X.env) fp) tg1 js1 g1)
    (ht1 : ∀ (s : Shared) (H : Hp) (C : Addr) (cl : List (Str × Addr)) (fp : List Addr), SimTs T (X.blk s H scope (compEnvC scope cl C X.env) fp) W0 ifs1 tt1)
    (he : ∀ (s : Shared) (H : Hp) (C : Addr) (cl : List (Str × Addr)) (fp : List Addr), SimE T (X.blk s H scope (compEnvC scope cl C X.env) fp) W0 elt te)
    (hv : ∀ j ∈ js, j ∈ own.map (·.2) := by decide) (hv1 : ∀ j ∈ js1, j ∈ vs1 := by decide) (hv2 : ∀ i ∈ vs1, i ∈ own.map (·.2) := by decide)
    (hs : ∀ x, foldedSetIterable iter X.env x = pure x := by intro _; rfl) (hs1 : ∀ env x, foldedSetIterable iter1 env x = pure x := by intro _ _; rfl) : SimE T X W (.ListComp elt [⟨tg, iter, ifs, 0⟩, ⟨tg1, iter1, ifs1, 0⟩] scope pos) (mComp2 mi g tt mi1 g1 tt1 te (own.map (·.2)) vs1) :=
  PE.weak (pe_lc2 hc hN hi ok hv2 hg ht hi1 hg1 ht1 he hs hs1) fun _ _ _ q => comp2_reads hv hv1 q
end
end EV
end T26
section T27
set_option Elab.async false
set_option linter.all false
set_option maxRecDepth 100000
namespace EV
open PySem PySem.Spec PyProof.Rows L2 PpSet

/-! ### a set of ints in order -/
def insI (y : Int) : List Int → List Int
  | [] => [y]
  | a :: l => if y < a then y :: a :: l else if y = a then a :: l else a :: insI y l
theorem mem_insI {y k : Int} : ∀ {l : List Int}, k ∈ insI y l ↔ k = y ∨ k ∈ l
  | [] => by simp [insI]
  | a :: l => by
    unfold insI
    split
    · simp
    · split
      · rename_i h; subst h; simp
      · simp only [List.mem_cons, mem_insI (l := l)]
        constructor
        · rintro (h | h | h)
          · exact .inr (.inl h)
          · exact .inl h
          · exact .inr (.inr h)
        · rintro (h | h | h)
          · exact .inr (.inl h)
          · exact .inl h
          · exact .inr (.inr h)
theorem sorted_insI {y : Int} : ∀ {l : List Int}, l.Pairwise (· < ·) → (insI y l).Pairwise (· < ·)
  | [], _ => by simp [insI]
  | a :: l, h => by
    have h1 := List.pairwise_cons.mp h
    unfold insI
    split
    · rename_i c
      refine List.pairwise_cons.mpr ⟨fun z hz => ?_, h⟩
      rcases List.mem_cons.mp hz with e | e
      · subst e; exact c
      · exact Int.lt_trans c (h1.1 z e)
    · split
      · exact h
      · rename_i c1 c2
        refine List.pairwise_cons.mpr ⟨fun z hz => ?_, sorted_insI h1.2⟩
        rcases mem_insI.mp hz with e | e
        · subst e; omega
        · exact h1.1 z e
theorem len_insI {y : Int} : ∀ {l : List Int}, l.Pairwise (· < ·) → (insI y l).length = if y ∈ l then l.length else l.length + 1
  | [], _ => by simp [insI]
  | a :: l, h => by
    have h1 := List.pairwise_cons.mp h
    unfold insI
    split
    · rename_i c
      have n : y ∉ a :: l := fun z => by
        rcases List.mem_cons.mp z with e | e
        · omega
        · have := h1.1 y e; omega
      rw [if_neg n]; rfl
    · split
      · rename_i e; subst e; simp
      · rename_i c1 c2
        rw [List.length_cons, len_insI h1.2]
        have : (y ∈ a :: l) ↔ y ∈ l := by simp [c2]
        by_cases c : y ∈ l
        · rw [if_pos c, if_pos (this.mpr c)]; rfl
        · rw [if_neg c, if_neg (fun z => c (this.mp z))]; rfl
theorem sorted_same : ∀ {l m : List Int}, l.Pairwise (· < ·) → m.Pairwise (· < ·) → (∀ k, k ∈ l ↔ k ∈ m) → l = m
  | [], [], _, _, _ => rfl
  | [], b :: m, _, _, h => by have := (h b).mpr (by simp); simp at this
  | a :: l, [], _, _, h => by have := (h a).mp (by simp); simp at this
  | a :: l, b :: m, hl, hm, h => by
    have l1 := List.pairwise_cons.mp hl
    have m1 := List.pairwise_cons.mp hm
    have e : a = b := by
      have h1 := (h a).mp (by simp)
      have h2 := (h b).mpr (by simp)
      rcases List.mem_cons.mp h1 with z | z
      · exact z
      · rcases List.mem_cons.mp h2 with y | y
        · exact y.symm
        · have := m1.1 a z; have := l1.1 b y; omega
    subst e
    rw [sorted_same l1.2 m1.2 fun k => ?_]
    have hk := h k
    constructor
    · intro z
      have := hk.mp (List.mem_cons_of_mem _ z)
      rcases List.mem_cons.mp this with y | y
      · have := l1.1 k z; omega
      · exact y
    · intro z
      have := hk.mpr (List.mem_cons_of_mem _ z)
      rcases List.mem_cons.mp this with y | y
      · have := m1.1 k z; omega
      · exact y
section
variable {X : Cx}
/-- {elt for target in iter if ..}, elt an int: D the new set -/
def tSci (w : World) (wi : TI) (g : TG) (tt : TT) (te : TE) (vs : List Nat) : TE := fun σ H Q => wi σ H fun J H1 => ∀ D, H1 D = none → ∃ Z : Nat → Nat → Hp → Prop, (∃ m, Z 0 m (L2.upd H1 D (SetO w D (fun _ => false) 0))) ∧ ∀ i m H, Z i m H →
  (J.stop i H ∧ Q (.ref D) H) ∨ (J.go i H ∧ ∃ Nx : Hp → Prop, (∀ H', Nx H' → ∃ m', m' < m ∧ Z (i + 1) m' H') ∧ ∀ x H', J.yld i H x H' → g x (wipe σ vs) H' fun σ2 H2 => wipe σ2 vs = wipe σ vs ∧ tt σ2 H2 fun b H3 =>
    if b = true then te σ2 H3 fun y H4 => ∃ (k : Int) (S : Int → Bool) (n : Nat), y = .int k ∧ H4 D = some (SetO w D S n) ∧ n + 1 < scanBound ∧ Nx (L2.upd H4 D (SetO w D (fun j => S j || decide (j = k)) (if S k = true then n else n + 1))) else Nx H3)
theorem addI_ok {pins : List (Addr × Obj)} {σ : L2.St} {H : Hp} {s : Shared} {E : Value → Shared → Prop} {D : Addr} {S : Int → Bool} {n : Nat} {k : Int} {tk : Tok} {Q : Value → Shared → Prop} (I : Inv X pins σ H s) (hD : H D = some (SetO X.w D S n)) (room : n + 1 < scanBound)
    (fin : ∀ s', Inv X pins σ (L2.upd H D (SetO X.w D (fun j => S j || decide (j = k)) (if S k = true then n else n + 1))) s' → Q .none s') : wpAny (model X.prog X.w) X.A (call (.builtin "set.add") [.ref D, .int k tk]) Q E s := by
  refine setR_add (setO_get I hD) room fun h' sb new => ?_
  have there : ∃ u, h'.get? D = some u := let ⟨o, _, _, _, ho, _⟩ := new; ⟨o, ho⟩
  exact fin _ (I.write (e := D) (t' := s.toks + 1) (by rw [hD]; trivial) (.inl rfl) (fun b u nb eu => (sb.2 b nb).trans eu) there (setO_new new))
theorem sci_core {pins : List (Addr × Obj)} {s : Shared} {σ : L2.St} {H : Hp} {Q : VK} {elt tg iter : Expr} {ifs : List Expr} {scope : Scope} {own : List (Str × Nat)} {pos pos' : Pos} {wi : TI} {g : TG} {tt : TT} {te : TE} {use : Option (Value → Sem Unit)} {Qf : Value → Shared → Prop}
    (hc : X.calm = true) (hN : X.N.Nodup) (I : Inv X pins σ H s) (hi : PI X tg iter wi) (ok : BlkOk X.N X.env.scope scope own)
    (hg : ∀ (s : Shared) (H : Hp) (C : Addr) (cl : List (Str × Addr)) (fp : List Addr), PG (X.blk s H scope (compEnvC scope cl C X.env) fp) tg g) (ht : ∀ (s : Shared) (H : Hp) (C : Addr) (cl : List (Str × Addr)) (fp : List Addr), PTs (X.blk s H scope (compEnvC scope cl C X.env) fp) ifs tt)
    (he : ∀ (s : Shared) (H : Hp) (C : Addr) (cl : List (Str × Addr)) (fp : List Addr), PE (X.blk s H scope (compEnvC scope cl C X.env) fp) elt te) (hs : ∀ x, foldedSetIterable iter X.env x = pure x)
    (h : tSci X.w wi g tt te (own.map (·.2)) σ H Q)
    (back : ∀ D C s' m H', Inv X pins σ H' s' → Q (.ref D) H' → s'.heap.Ns C m → FpOk X pins H' C → compPost (model X.prog X.w) X.A X.xe use Qf (.ref D) C (.ok .next) s') :
    wpAny (model X.prog X.w) X.A (comprehension (.SetComp elt [⟨tg, iter, ifs, 0⟩] scope pos) scope X.env pos' (newSet (.type "set")) false (eval iter X.env) use) Qf X.xe s := by
  have frees : ∀ y ∈ scope.names, y.2 = .free → ∃ c, X.env.cells.lookup y.1 = some c := fun y hy ey => (ok.free y hy ey).elim (fun z => I.ok.has _ (.inl z)) fun z => I.ok.has _ (.inr z)
  refine wpAny_comprehension_free (use := use) rfl hs (closure_ok frees) ok.kind (fun y hy ey => by rw [ok.uniq y hy, ey])
    (thn (hi.run pins s σ H _ I h) fun _ s1 hx => thn hx fun _ s2 ⟨it, fp, tn, J, H2, ev, I2, T, st2, f2, q⟩ => ?_)
  subst ev
  refine newSet_ok (newEnv_comp ?_)
  -- D is the set, new3 the heap's text behind it
  obtain ⟨D, hD⟩ : ∃ D, D = s2.heap.objs.size := ⟨_, rfl⟩
  have noD : H2 D = none := I2.hok.fresh (Nat.le_of_eq hD.symm)
  obtain ⟨Z, ⟨m0, w0⟩, turn⟩ := q D noD
  rw [← hD]
  obtain ⟨s3, es3⟩ : ∃ s3 : Shared, s3 = { s2 with heap := s2.heap.push { cls := .type "set", dict := none, data := .set #[] 0 (.fresh 0 0 (!X.w.params.followText "set-order")) } } := ⟨_, rfl⟩
  have push3 : s3.heap = s2.heap.push { cls := .type "set", dict := none, data := .set #[] 0 (.fresh 0 0 (!X.w.params.followText "set-order")) } := by rw [es3]
  obtain ⟨H3, eH3⟩ : ∃ H3, H3 = L2.upd H2 D (SetO X.w D (fun _ => false) 0) := ⟨_, rfl⟩
  have I3 : Inv X pins σ H3 s3 := by
    subst es3 eH3 hD
    exact I2.laid (t' := s2.toks) (fun b o eo => Heap.get?_push_of_some _ eo) (Nat.le_refl _) (setO_new (setR_fresh X.w))
  have below : ∀ b ∈ fp, b < D := fun b hb => by
    obtain ⟨o, eo, _⟩ := T.obj _ _ st2 b hb
    rw [hD]
    exact Heap.lt_size eo
  have f3 : ∀ b ∈ fp, FpOk X pins H3 b ∧ b < s3.heap.objs.size := fun b hb => by
    refine ⟨⟨?_, (f2 b hb).2⟩, by rw [push3, Heap.size_push, ← hD]; exact Nat.lt_succ_of_lt (below b hb)⟩
    rw [eH3, upd_ne (Nat.ne_of_lt (below b hb))]
    exact (f2 b hb).1
  have st3 : tn 0 s3.heap := T.keep _ _ _ st2 fun b _ o eo => by rw [push3]; exact Heap.get?_push_of_some _ eo
  rw [← eH3] at w0
  have I4 := block_start I3 ok hN f3
  have none3 : ∀ b ∈ fp, H3 b = none := fun b hb => (f3 b hb).1.1
  rw [← es3]
  obtain ⟨cls', ecl⟩ : ∃ c, c = cellsFrom (s3.heap.objs.size + 1) scope.names (cloFrom X.env.cells scope.names []) := ⟨_, rfl⟩
  obtain ⟨ce, ece⟩ : ∃ c, c = compEnvC scope (cellsFrom (s3.heap.objs.size + 1) scope.names (cloFrom X.env.cells scope.names [])) s3.heap.objs.size X.env := ⟨_, rfl⟩
  have loc : ce.locals = s3.heap.objs.size := by rw [ece]; rfl
  have pg := hg s3 H3 s3.heap.objs.size (cellsFrom (s3.heap.objs.size + 1) scope.names (cloFrom X.env.cells scope.names [])) fp
  have pt := ht s3 H3 s3.heap.objs.size (cellsFrom (s3.heap.objs.size + 1) scope.names (cloFrom X.env.cells scope.names [])) fp
  have pe := he s3 H3 s3.heap.objs.size (cellsFrom (s3.heap.objs.size + 1) scope.names (cloFrom X.env.cells scope.names [])) fp
  rw [← ece] at I4 pg pt pe
  obtain ⟨s4, es4⟩ : ∃ s4 : Shared, s4 = { s3 with heap := pushCells (s3.heap.push { cls := .type "dict", data := .dict #[] }) scope.names } := ⟨_, rfl⟩
  rw [← es4] at I4
  show codeAny _ _ (.compStart (.SetComp elt [⟨tg, iter, ifs, 0⟩] scope pos) 0 (.ref it) (.ref D) (compEnvC scope (cellsFrom (s3.heap.objs.size + 1) scope.names (cloFrom X.env.cells scope.names [])) s3.heap.objs.size X.env)) (compPost (model X.prog X.w) X.A X.xe use Qf (.ref D) s3.heap.objs.size) { s3 with heap := pushCells (s3.heap.push { cls := .type "dict", data := .dict #[] }) scope.names }
  rw [← ece, ← es4]
  have st4 : tn 0 s4.heap := T.keep _ _ _ st3 fun b _ o eo => by rw [es4]; exact pushCells_keeps _ _ _ _ (Heap.get?_push_of_some _ eo)
  have still : ∀ {σ' : L2.St} {H' : Hp} {s' : Shared}, Inv (X.blk s3 H3 scope ce fp) [] σ' H' s' → (∀ b ∈ fp, H' b = none) → ∀ b ∈ fp, FpOk (X.blk s3 H3 scope ce fp) [] H' b := fun {_ _ _} J hn b hb =>
    ⟨hn b hb, (J.ok.exf b hb).1, J.ok.exfs b hb, .inl hb, fun x c ec => (J.ok.exf b hb).2 x c ec, fun p hp => absurd (show p ∈ ([] : List (Addr × Obj)) ++ [] from hp) (by simp)⟩
  have loop : codeAny (model X.prog X.w) X.A (.compLoop (.SetComp elt [⟨tg, iter, ifs, 0⟩] scope pos) 0 (.ref it) (.ref D) ce) (compPost (model X.prog X.w) X.A X.xe use Qf (.ref D) s3.heap.objs.size) s4 := by
    refine compLoopS_any (fun n s' => ∃ i H', Inv (X.blk s3 H3 scope ce fp) [] (wipe σ (own.map (·.2))) H' s' ∧ tn i s'.heap ∧ (∀ b ∈ fp, H' b = none) ∧ Z i n H') ?_ m0 ⟨0, H3, I4, st4, none3, w0⟩
    rintro n s5 ⟨i, H5, I5, st5, n5, w5⟩
    rcases turn i n H5 w5 with ⟨stop, qq⟩ | ⟨go, Nx, hNx, step⟩
    · refine thnF (T.done (X.blk s3 H3 scope ce fp) rfl rfl rfl hc i [] s5 _ H5 (fun _ _ => False) I5 (still I5 n5) st5 stop) fun r s6 ⟨er, I6⟩ => ?_
      subst er
      have I7 : Inv X pins σ H5 s6 := I3.call' (ch := fp) I6.os I6.base I6.hok I6.bare fun b hb => ⟨(f3 b hb).1.2.2.2.1, (f3 b hb).1.2.1, (f3 b hb).1.2.2.2.2.1, (f3 b hb).1.2.2.2.2.2⟩
      obtain ⟨m, hn, _⟩ := I6.loc
      have hn : s6.heap.Ns ce.locals m := hn
      have free6 : H5 ce.locals = none := I6.free
      rw [loc] at hn free6
      exact back D s3.heap.objs.size s6 m H5 I7 qq hn (I3.fpOk (Nat.le_refl _) free6)
    · refine thnF (T.item (X.blk s3 H3 scope ce fp) rfl rfl rfl hc i [] s5 _ H5 (fun _ _ => False) I5 (still I5 n5) st5 go) fun r s6 ⟨u, er, h6⟩ => ?_
      subst er
      refine thnF h6 fun _ s7 ⟨x, H7, I7, r7, y7, st7, n7⟩ => ?_
      refine thnF (pg.run _ s7 _ H7 x u _ (I7.pinned (still I7 n7) (T.obj _ _ st7)) r7 (step x H7 y7)) fun _ s8 ⟨σ8, H8, I8, hw8, q8⟩ => ?_
      refine thnF (pt.run _ s8 σ8 H8 _ I8 q8) fun b s9 ⟨H9, I9, q9⟩ => ?_
      have fin : ∀ {s' : Shared} {H' : Hp}, Inv (X.blk s3 H3 scope ce fp) ([] ++ pinsAt fp s7.heap) σ8 H' s' → Nx H' → ∃ m, m < n ∧ ∃ i H', Inv (X.blk s3 H3 scope ce fp) [] (wipe σ (own.map (·.2))) H' s' ∧ tn i s'.heap ∧ (∀ b ∈ fp, H' b = none) ∧ Z i m H' := fun {s' H'} J nx => by
        obtain ⟨m', hm, w'⟩ := hNx H' nx
        have keep7 : ∀ b ∈ fp, ∀ o, s7.heap.get? b = some o → s'.heap.get? b = some o ∧ H' b = none := fun b hb o eo =>
          ⟨(J.pin (b, o) (List.mem_append_right _ (List.mem_append_right _ (mem_pinsAt hb eo)))).1, (J.pin (b, o) (List.mem_append_right _ (List.mem_append_right _ (mem_pinsAt hb eo)))).2.1⟩
        refine ⟨m', hm, i + 1, H', (J.unpinned (pins := [])).weak (by rw [← hw8, wipe_length]) (fun j v ev => by rw [← hw8] at ev; exact (wipe_some ev).1), T.keep _ _ _ st7 fun b hb o eo => (keep7 b hb o eo).1, fun b hb => ?_, w'⟩
        obtain ⟨o, eo, _⟩ := T.obj _ _ st7 b hb
        exact (keep7 b hb o eo).2
      cases b with
      | false =>
        simp only [Bool.false_eq_true, if_false] at q9 ⊢
        exact fin I9 q9
      | true =>
        simp only [if_true] at q9 ⊢
        refine thnF (pe.run _ s9 σ8 H9 _ I9 q9) fun z s10 ⟨yv, H10, I10, r10, k, S0, n0, ey, hD10, hz10, nx⟩ => ?_
        subst ey
        obtain ⟨tk, rfl⟩ := r10
        exact addI_ok (X := X.blk s3 H3 scope ce fp) I10 hD10 hz10 fun s11 I11 => fin I11 nx
  exact codeAny_compStart_set loop (T.self X.A 0 _ _ _ st4 loop)
theorem pe_sci {elt tg iter : Expr} {ifs : List Expr} {scope : Scope} {own : List (Str × Nat)} {pos : Pos} {wi : TI} {g : TG} {tt : TT} {te : TE} (hc : X.calm = true) (hN : X.N.Nodup) (hi : PI X tg iter wi) (ok : BlkOk X.N X.env.scope scope own)
    (hg : ∀ (s : Shared) (H : Hp) (C : Addr) (cl : List (Str × Addr)) (fp : List Addr), PG (X.blk s H scope (compEnvC scope cl C X.env) fp) tg g) (ht : ∀ (s : Shared) (H : Hp) (C : Addr) (cl : List (Str × Addr)) (fp : List Addr), PTs (X.blk s H scope (compEnvC scope cl C X.env) fp) ifs tt)
    (he : ∀ (s : Shared) (H : Hp) (C : Addr) (cl : List (Str × Addr)) (fp : List Addr), PE (X.blk s H scope (compEnvC scope cl C X.env) fp) elt te) (hs : ∀ x, foldedSetIterable iter X.env x = pure x := by intro _; rfl) :
    PE X (.SetComp elt [⟨tg, iter, ifs, 0⟩] scope pos) (tSci X.w wi g tt te (own.map (·.2))) := by
  refine ⟨fun pins s σ H Q I h => ?_⟩
  rw [eval_SetComp]
  refine sci_core hc hN I hi ok hg ht he hs h fun D C s' m H' J q hn ⟨f0, f1, f2, f3, f4, f5⟩ => ⟨m, hn, fun h'' sb => ?_⟩
  exact ⟨.ref D, H', J.turned (t' := s'.toks) (fun b o hb eo => (sb.2 b hb).trans eo) f0 f1 f3 f4 f5, rfl, q⟩
end
end EV
end T27
section T28
set_option Elab.async false
set_option linter.all false
set_option maxRecDepth 100000
namespace EV
open PySem PySem.Spec PyProof.Rows L2

/-! ### sorted({e for x in it if ..}), e an int -/
def setL (g : MG) (tt : MT) (te : ME) (S : Sl) (I : Itd) : Nat → Nat → List Int → Hs → Rs (List Int)
  | 0, i, acc, h => match I.at i h with
    | some none => ret acc h
    | _ => none
  | k + 1, i, acc, h => match I.at i h with
    | none => none
    | some none => ret acc h
    | some (some d) => match g d S with
      | none => none
      | some S1 => bnd (noErr (tt S1 h)) fun b h1 => if b = true then bnd (noErr (te S1 h1)) fun v h2 => (match v with
          | .p (.int y) => if acc.length < 60 then setL g tt te S I k (i + 1) (insI y acc) h2 else none
          | _ => none)
        else setL g tt te S I k (i + 1) acc h1
def mSortSet (mi : MI) (g : MG) (tt : MT) (te : ME) (vs : List Nat) : ME := fun S h => bnd (mi S h) fun I h1 => bnd (setL g tt te (wipeS S vs) I (I.len h1) 0 [] h1) fun ys h2 => if ys.length < 64 then ret (.p (.lst (ys.map .int))) h2 else none
section
variable {T : Tb} {X : Cx} {W : WX}
/-- the set that is made, D, stands barred -/
structure SetI (T : Tb) (K : PySem.W.Frag) (w : World) (M1 : Trk) (H1 : Hp) (D : Addr) (M : Trk) (H : Hp) (h : Hs) (acc : List Int) : Prop where
  ext : Ext M1 H1 M H
  hr : HR T K M H h
  bar : D ∈ M.no
  out : D ∉ M.ch
  srt : acc.Pairwise (· < ·)
  at' : ∃ S n, H D = some (SetO w D S n) ∧ (∀ k, S k = decide (k ∈ acc)) ∧ n = acc.length
theorem SetI.step {K : PySem.W.Frag} {w : World} {M1 M M' : Trk} {H1 H H' : Hp} {D : Addr} {h h' : Hs} {acc : List Int} (c : SetI T K w M1 H1 D M H h acc) (e : Ext M H M' H') (hr : HR T K M' H' h') : SetI T K w M1 H1 D M' H' h' acc :=
  ⟨c.ext.trans e, hr, e.nos D c.bar, (let ⟨_, _, a, _⟩ := c.at'; e.outT a c.out), c.srt, let ⟨S, n, a, b⟩ := c.at'; ⟨S, n, e.keep D _ a c.out, b⟩⟩
theorem SetI.push {K : PySem.W.Frag} {w : World} {M1 M : Trk} {H1 H : Hp} {D : Addr} {h : Hs} {acc : List Int} {y : Int} (c : SetI T K w M1 H1 D M H h acc) (hD : H1 D = none) {S : Int → Bool} {n : Nat} (a : H D = some (SetO w D S n)) (b : ∀ k, S k = decide (k ∈ acc)) (en : n = acc.length) :
    SetI T K w M1 H1 D M (L2.upd H D (SetO w D (fun j => S j || decide (j = y)) (if S y = true then n else n + 1))) h (insI y acc) := by
  refine ⟨⟨c.ext.pre, c.ext.nos, c.ext.new, fun a o e n => ?_, fun a e => c.ext.live a (live_upd e), c.ext.mms, c.ext.mnew⟩, c.hr.writeN c.bar c.out, c.bar, c.out, sorted_insI c.srt, _, _, upd_same, fun k => ?_, ?_⟩
  · rw [upd_ne (ne_of_none e hD)]
    exact c.ext.keep a o e n
  · rw [b k]
    have e : (k ∈ insI y acc) ↔ (k = y ∨ k ∈ acc) := mem_insI
    rw [decide_eq_decide.mpr e]
    by_cases h1 : k ∈ acc
    · rw [decide_eq_true h1, decide_eq_true (p := k = y ∨ k ∈ acc) (.inr h1)]; rfl
    · by_cases h2 : k = y
      · rw [decide_eq_true h2, decide_eq_true (p := k = y ∨ k ∈ acc) (.inl h2), Bool.or_true]
      · rw [decide_eq_false h1, decide_eq_false h2, decide_eq_false (p := k = y ∨ k ∈ acc) (fun z => z.elim h2 h1)]; rfl
  · rw [len_insI c.srt, b y, en]
    by_cases h1 : y ∈ acc <;> simp [h1]
theorem SetI.done {K : PySem.W.Frag} {w : World} {M1 M : Trk} {H1 H : Hp} {D : Addr} {h : Hs} {acc : List Int} (c : SetI T K w M1 H1 D M H h acc) (nD : D ∉ M1.no) : Ext M1 H1 (unbar M D c.out) H ∧ HR T K (unbar M D c.out) H h := by
  refine ⟨⟨c.ext.pre, fun a ha => mem_unbar.mpr ⟨c.ext.nos a ha, fun z => nD (by rw [← z]; exact ha)⟩, fun a h1 h2 => c.ext.new a (mem_unbar.mp h1).1 h2, c.ext.keep, c.ext.live, c.ext.mms, c.ext.mnew⟩,
    c.hr.less rfl rfl fun a ha => (mem_unbar.mp ha).1⟩
theorem set_reads {mi : MI} {g : MG} {tt : MT} {te : ME} {js vs : List Nat} (hv : ∀ j ∈ js, j ∈ vs) {σ : L2.St} {H : Hp} {Q : VK} {K : PySem.W.Frag} {w : World} (q : tr T K W (mSortSet mi g tt te vs) σ H Q) :
    tSci w (trI T K W mi) (trG T K js g) (trT T K W0 tt) (tr T K W0 te) vs σ H (fun x H1 => rSortedSet w [x] H1 Q) := by
  obtain ⟨S, M, h, sr, hr, p⟩ := q
  refine ⟨S, M, h, sr, hr, p.bnd fun I h1 M1 H1 J e1 hr1 r1 p1 => fun D hD => ?_⟩
  have nD : D ∉ M1.no := hr1.none_out hD
  have sr1 := sr.ext e1
  let Rest : Nat → Nat → Hs → List Int → Prop := fun m i h' acc => post T K (RV T K) M1 H1 (erAt T W σ) Q (bnd (setL g tt te (wipeS S vs) I m i acc h') fun ys h2 => if ys.length < 64 then ret (.p (.lst (ys.map .int))) h2 else none)
  refine ⟨fun i m H' => ∃ M' h' acc, SetI T K w M1 H1 D M' H' h' acc ∧ Rest m i h' acc,
    ⟨I.len h1, M1.bar D, h1, [], ⟨.bar hD, hr1.bar hD, List.mem_append_right _ (by simp), hr1.none_out' hD, .nil, _, _, upd_same, (fun k => by simp), rfl⟩, p1⟩, ?_⟩
  rintro i m H2 ⟨M2, h2, acc, c2, p2⟩
  obtain ⟨q1, q2⟩ := r1 i M2 H2 h2 c2.ext.b c2.hr
  have p2 : post T K (RV T K) M1 H1 (erAt T W σ) Q (bnd (setL g tt te (wipeS S vs) I m i acc h2) fun ys h2 => if ys.length < 64 then ret (.p (.lst (ys.map .int))) h2 else none) := p2
  cases hat : I.at i h2 with
  | none => cases m <;> (simp only [setL, hat] at p2; exact p2.elim)
  | some o =>
    cases o with
    | none =>
      refine .inl ⟨q2 hat, ?_⟩
      have p3 : post T K (RV T K) M1 H1 (erAt T W σ) Q (if acc.length < 64 then ret (.p (.lst (acc.map .int))) h2 else none) := by
        cases m <;> (simp only [setL, hat, bnd_ret] at p2; exact p2)
      split at p3
      · rename_i hz
        obtain ⟨a1, a2⟩ := c2.done nD
        obtain ⟨S0, n0, hD0, hS0, hn0⟩ := c2.at'
        refine ⟨D, S0, n0, rfl, hD0, by omega, fun ns q s1 s2 s3 hq => ?_⟩
        have e : ns = acc := sorted_same s1 c2.srt fun k => by rw [s2 k, hS0 k, decide_eq_true_eq]
        subst e
        have hq' : q ∉ (unbar M2 D c2.out).no := a2.none_out hq
        exact p3.ret (a1.trans (.fresh hq)) (a2.fresh hq) (new_lst a2 hq (.of_ints ns))
      · exact p3.elim
    | some d =>
      cases m with
      | zero => simp only [setL, hat] at p2; exact p2.elim
      | succ m =>
        refine .inr ?_
        obtain ⟨go, yl⟩ := q1 d hat
        refine ⟨go, fun H' => ∃ M' h' acc, SetI T K w M1 H1 D M' H' h' acc ∧ Rest m (i + 1) h' acc, ?_, fun x H' hy => ?_⟩
        · rintro H' ⟨M', h', ac, a1, a2⟩
          exact ⟨m, Nat.lt_succ_self _, M', h', ac, a1, a2⟩
        · obtain ⟨e3, hr3, rx⟩ := yl x H' hy
          simp only [setL, hat] at p2
          cases eg : g d (wipeS S vs) with
          | none => rw [eg] at p2; exact p2.elim
          | some S3 =>
            rw [eg] at p2
            dsimp only at p2
            have c3 := c2.step e3 hr3
            have srw : SR T K M2 H' (wipeS S vs) (L2.wipe σ vs) := (sr1.ext c3.ext).wipe vs
            refine ⟨wipeS S vs, M2, h2, d, S3, srw, hr3, rx, eg, fun σ3 sr3 w3 => ?_⟩
            refine ⟨by rw [w3 vs hv, wipe_wipe], S3, M2, h2, sr3, hr3, ?_⟩
            rw [bnd_bnd] at p2
            refine post_bndE p2 fun b h3 M3 H3 x3 e4 hr4 r4 p5 => ?_
            cases (r4 : b = x3)
            have c4 := c3.step e4 hr4
            cases b with
            | false => exact ⟨M3, h3, acc, c4, by simpa using p5⟩
            | true =>
              refine ⟨S3, M3, h3, sr3.ext e4, hr4, ?_⟩
              simp only [if_true] at p5
              rw [bnd_bnd] at p5
              refine post_bndE p5 fun v h4 M4 H4 y e5 hr5 r5 p7 => ?_
              have c5 := c4.step e5 hr5
              split at p7
              · rename_i k
                split at p7
                · rename_i hz
                  cases r5 with
                  | p ry =>
                    cases ry
                    obtain ⟨S0, n0, hD0, hS0, hn0⟩ := c5.at'
                    have lt : n0 + 1 < scanBound := by
                      have : (62 : Nat) < scanBound := by decide
                      omega
                    exact ⟨k, S0, n0, rfl, hD0, lt, M4, h4, insI k acc, c5.push hD hD0 hS0 hn0, p7⟩
                · exact p7.elim
              · exact p7.elim
theorem sim_sortSet {elt tg iter : Expr} {ifs : List Expr} {scope : Scope} (own : List (Str × Nat)) {p ps pos : Pos} {mi : MI} {js : List Nat} {g : MG} {tt : MT} {te : ME} (hc : X.calm = true) (hN : X.N.Nodup) (hm : X.mg "sorted" = none) (hi : SimI T X W tg iter mi) (ok : BlkOk X.N X.env.scope scope own)
    (hg : ∀ (s : Shared) (H : Hp) (C : Addr) (cl : List (Str × Addr)) (fp : List Addr), SimG T (X.blk s H scope (compEnvC scope cl C X.env) fp) tg js g)
    (ht : ∀ (s : Shared) (H : Hp) (C : Addr) (cl : List (Str × Addr)) (fp : List Addr), SimTs T (X.blk s H scope (compEnvC scope cl C X.env) fp) W0 ifs tt)
    (he : ∀ (s : Shared) (H : Hp) (C : Addr) (cl : List (Str × Addr)) (fp : List Addr), SimE T (X.blk s H scope (compEnvC scope cl C X.env) fp) W0 elt te) (hv : ∀ j ∈ js, j ∈ own.map (·.2) := by decide)
    (hs : ∀ x, foldedSetIterable iter X.env x = pure x := by intro _; rfl) (hgl : Gl X "sorted" := by rfl)
    (hst : starEach [Expr.SetComp elt [⟨tg, iter, ifs, 0⟩] scope ps] X.env = (false, eval (Expr.SetComp elt [⟨tg, iter, ifs, 0⟩] scope ps) X.env) :: starEach [] X.env := by rfl) :
    SimE T X W (.Call (.Name "sorted" p) [.SetComp elt [⟨tg, iter, ifs, 0⟩] scope ps] [] pos) (mSortSet mi g tt te (own.map (·.2))) :=
  PE.weak (pe_callB (cr_sortedSet hc) hgl hm (by decide +kernel) (pa_cons (pe_sci hc hN hi ok hg ht he hs) pa_nil hst) (he := hst) (hpl := rfl)) fun σ H Q q => set_reads hv q
end
end EV
end T28
section T29
set_option Elab.async false
set_option linter.all false
set_option maxRecDepth 100000
set_option maxHeartbeats 1000000
namespace EV
open PySem PySem.Spec PyProof.Rows L2

section
variable {T : Tb} {X : Cx} {W : WX} {k : Nat}
/-! ### a * b, of whatever kind -/
def fMul (v w : Vl) (h : Hs) : Rs Vl := match v with
  | .p (.int _) => fMulI v w h
  | .p (.tup _) => fRepU v w h
  | .p (.lst _) => fRepL v w h
  | _ => none
theorem sim_mul {ea eb : Expr} {a b : ME} {pos : Pos} (ha : SimE T X W ea a) (hb : SimE T X W eb b) : SimE T X W (.BinOp ea .Mult eb pos) (m2 fMul a b) := by
  refine sim_op (op_mul.or ((op_repU.or op_repT).or op_rep)) ?_ ha hb
  intro M H h v w x y Er Q hr rx ry p
  unfold fMul at p
  split at p
  · exact .inl (s_I2 (T := T) (K := X.K) (fun _ _ h => cMul_of h) (fun _ _ _ _ => .int _) M H h _ w x y Er Q hr rx ry p)
  · exact .inr (.inl (s_repU M H h _ w x y Er Q hr rx ry p))
  · exact .inr (.inr (s_repL M H h _ w x y Er Q hr rx ry p))
  · exact p.elim
/-! ### a, b = x, y (, c = z), names that others see -/
theorem sim_parC2 {x y : Str} {a b : Expr} (i j : Nat) {m : MA} {px py pt pos : Pos} {kt k2 : Nat} {pt2 : Pos} (hc : X.calm = true) (hN : X.N.Nodup) (ha : SimA T X W [a, b] m) (hi : X.N[i]? = some x := by rfl) (hj : X.N[j]? = some y := by rfl)
    (h1 : Loc X.env.scope x := by first | exact Or.inl rfl | exact Or.inr rfl) (f1 : X.fn x = true ∨ X.env.scope.names.lookup x = some .local := by first | exact .inl rfl | exact .inr rfl)
    (h2 : Loc X.env.scope y := by first | exact Or.inl rfl | exact Or.inr rfl) (f2 : X.fn y = true ∨ X.env.scope.names.lookup y = some .local := by first | exact .inl rfl | exact .inr rfl)
    (he : (assignEach [.Tuple [.Name x px, .Name y py] kt pt] X.env).map (·.2) = [assign (.Tuple [.Name x px, .Name y py] kt pt) X.env] := by rfl)
    (hs : swapsWithSole [.Tuple [.Name x px, .Name y py] kt pt] (.Tuple [a, b] k2 pt2) pos.line X.env = pure false := by rfl) (hw : swappedStores [.Tuple [.Name x px, .Name y py] kt pt] (.Tuple [a, b] k2 pt2) X.env = pure none := by rfl)
    (hn : (assignEach [.Name x px, .Name y py] X.env).length = 2 := by rfl) (hst : (assignEach [.Name x px, .Name y py] X.env).findIdx? (·.1) = none := by rfl) :
    SimS T X W (.Assign [.Tuple [.Name x px, .Name y py] kt pt] (.Tuple [a, b] k2 pt2) pos) (sPar i j m) := by
  refine PS.weak (ps_asg (pe_tup ha) (pg_tup hc (pgs_cons (pg_name (i := i) hN hi h1 (hf := f1)) (pgs_cons (pg_name (i := j) hN hj h2 (hf := f2)) pgs_nil)) hn hst) (h1 := he) (hs := hs) (hw := hw)) fun D σ H ⟨S, M, h, sr, hr, p⟩ => ⟨S, M, h, sr, hr, p.bnd sr fun vs h1 M1 H1 xs e1 sr1 hr1 r1 p1 => ?_⟩
  split at p1
  · cases r1 with
    | cons ra r1 =>
      cases r1 with
      | cons rb r1 =>
        cases r1
        refine ⟨by show 2 ≤ sizeLine; decide, fun p hp => ⟨p, _, rfl, .of upd_same, rfl, _, _, rfl, _, _, rfl, rfl, ?_⟩⟩
        exact p1 M1 _ _ (.fresh hp) (hr1.fresh hp) (((sr1.ext (.fresh hp)).set (ra.ext (.fresh hp)) i).set (rb.ext (.fresh hp)) j)
  · exact p1.elim
theorem sim_parC3 {x y z : Str} {a b c : Expr} (i j l : Nat) {m : MA} {px py pz pt pos : Pos} {kt k2 : Nat} {pt2 : Pos} (hc : X.calm = true) (hN : X.N.Nodup) (ha : SimA T X W [a, b, c] m) (hi : X.N[i]? = some x := by rfl) (hj : X.N[j]? = some y := by rfl) (hl : X.N[l]? = some z := by rfl)
    (h1 : Loc X.env.scope x := by first | exact Or.inl rfl | exact Or.inr rfl) (f1 : X.fn x = true ∨ X.env.scope.names.lookup x = some .local := by first | exact .inl rfl | exact .inr rfl)
    (h2 : Loc X.env.scope y := by first | exact Or.inl rfl | exact Or.inr rfl) (f2 : X.fn y = true ∨ X.env.scope.names.lookup y = some .local := by first | exact .inl rfl | exact .inr rfl)
    (h3 : Loc X.env.scope z := by first | exact Or.inl rfl | exact Or.inr rfl) (f3 : X.fn z = true ∨ X.env.scope.names.lookup z = some .local := by first | exact .inl rfl | exact .inr rfl)
    (he : (assignEach [.Tuple [.Name x px, .Name y py, .Name z pz] kt pt] X.env).map (·.2) = [assign (.Tuple [.Name x px, .Name y py, .Name z pz] kt pt) X.env] := by rfl)
    (hs : swapsWithSole [.Tuple [.Name x px, .Name y py, .Name z pz] kt pt] (.Tuple [a, b, c] k2 pt2) pos.line X.env = pure false := by rfl) (hw : swappedStores [.Tuple [.Name x px, .Name y py, .Name z pz] kt pt] (.Tuple [a, b, c] k2 pt2) X.env = pure none := by rfl)
    (hn : (assignEach [.Name x px, .Name y py, .Name z pz] X.env).length = 3 := by rfl) (hst : (assignEach [.Name x px, .Name y py, .Name z pz] X.env).findIdx? (·.1) = none := by rfl) :
    SimS T X W (.Assign [.Tuple [.Name x px, .Name y py, .Name z pz] kt pt] (.Tuple [a, b, c] k2 pt2) pos) (sPar3 i j l m) := by
  refine PS.weak (ps_asg (pe_tup ha) (pg_tup hc (pgs_cons (pg_name (i := i) hN hi h1 (hf := f1)) (pgs_cons (pg_name (i := j) hN hj h2 (hf := f2)) (pgs_cons (pg_name (i := l) hN hl h3 (hf := f3)) pgs_nil))) hn hst) (h1 := he) (hs := hs) (hw := hw)) fun D σ H ⟨S, M, h, sr, hr, p⟩ => ⟨S, M, h, sr, hr, p.bnd sr fun vs h1 M1 H1 xs e1 sr1 hr1 r1 p1 => ?_⟩
  split at p1
  · cases r1 with
    | cons ra r1 =>
      cases r1 with
      | cons rb r1 =>
        cases r1 with
        | cons rc r1 =>
          cases r1
          refine ⟨by show 3 ≤ sizeLine; decide, fun p hp => ⟨p, _, rfl, .of upd_same, rfl, _, _, rfl, _, _, rfl, _, _, rfl, rfl, ?_⟩⟩
          exact p1 M1 _ _ (.fresh hp) (hr1.fresh hp) ((((sr1.ext (.fresh hp)).set (ra.ext (.fresh hp)) i).set (rb.ext (.fresh hp)) j).set (rc.ext (.fresh hp)) l)
  · exact p1.elim
end
end EV
end T29
section T30
set_option Elab.async false
set_option linter.all false
set_option maxRecDepth 100000
set_option maxHeartbeats 1000000
namespace HT
open PySem PySem.Spec PyProof.Rows L2
/-- how many of the first are left out, going back -/
def cutOf : Option Int → Nat
  | none => 0
  | some _ => 1
def hiOf (n : Nat) : Option Int → Int
  | none => -1
  | some _ => if n = 0 then -1 else 0
theorem pick_back {α : Type} (xs : Array α) (m : Nat) (hm : m ≤ xs.size) : (List.range m).filterMap (fun (k : Nat) => xs[(((xs.size : Int) - 1) + (k : Int) * (-1)).toNat]?) = (xs.toList.drop (xs.size - m)).reverse := by
  induction m with
  | zero => simp
  | succ m ih =>
    rw [List.range_succ, List.filterMap_append, ih (by omega)]
    have e : (((xs.size : Int) - 1) + (m : Int) * (-1)).toNat = xs.size - (m + 1) := by omega
    have hl : xs.size - (m + 1) < xs.size := by omega
    have e2 : xs.toList.drop (xs.size - (m + 1)) = xs[xs.size - (m + 1)] :: xs.toList.drop (xs.size - m) := by
      have q := List.drop_eq_getElem_cons (l := xs.toList) (i := xs.size - (m + 1)) (by simpa using hl)
      rw [q, Array.getElem_toList, show xs.size - (m + 1) + 1 = xs.size - m by omega]
    have e3 : xs[(((xs.size : Int) - 1) + (m : Int) * (-1)).toNat]? = some xs[xs.size - (m + 1)] := by rw [e]; exact Array.getElem?_eq_getElem hl
    rw [e2, List.reverse_cons]
    simp only [List.filterMap_cons, e3, List.filterMap_nil]
section
variable {prog : Program} {w : World} {A : Around} {E : Value → Shared → Prop} {s : Shared}
theorem slicePart_neg {v : Value} {Q : Option Int → Shared → Prop} (p : IsPart v (some (-1))) (h : Q (some (-1)) s) : wpAny (model prog w) A (Builtin.Slice.slicePartIndex v) Q E s := slicePart_ p h
theorem sliceApplied_neg {sl : Addr} {vl vu vs : Value} {hi : Option Int} {n : Nat} {Q : Int × Int × Nat → Shared → Prop} (hs : s.heap.IsSliceOf sl vl vu vs) (pl : IsPart vl none) (pu : IsPart vu hi) (ps : IsPart vs (some (-1))) (hh : hi = none ∨ hi = some 0)
    (h : Q ((n : Int) - 1, -1, n - cutOf hi) s) : wpAny (model prog w) A (Builtin.Slice.sliceApplied (.ref sl) (pure (n : Int))) Q E s := by
  obtain ⟨os, hos, hcs, hds⟩ := id hs
  unfold Builtin.Slice.sliceApplied Builtin.Slice.sliceFields
  refine wpAny_bind (wpAny_bind (wpAny_field hos hds (x := vl) rfl (wpAny_bind (wpAny_field hos hds (x := vu) rfl (wpAny_bind (wpAny_field hos hds (x := vs) rfl (wpAny_pure ?_)))))))
  refine wpAny_bind (slicePart_ ps ?_)
  show wpAny _ _ (if ((-1 : Int) == 0) = true then _ else _) _ _ s
  rw [if_neg (by decide)]
  refine wpAny_bind (slicePart_ pl (wpAny_bind (slicePart_ pu (wpAny_bind (wpAny_pure ?_)))))
  have e : Builtin.Slice.sliceAdjust none hi (-1) (n : Int) = ((n : Int) - 1, hiOf n hi) := by
    unfold Builtin.Slice.sliceAdjust hiOf
    rcases hh with rfl | rfl
    · simp
    · simp
      split <;> omega
  show wpAny _ _ (match Builtin.Slice.sliceAdjust none hi (-1) (n : Int) with | (lo, hi) => pure (lo, (-1 : Int), Builtin.Slice.slicePlaces lo hi (-1))) _ _ s
  rw [e]
  have e2 : Builtin.Slice.slicePlaces ((n : Int) - 1) (hiOf n hi) (-1) = n - cutOf hi := by
    unfold Builtin.Slice.slicePlaces cutOf hiOf
    rcases hh with rfl | rfl
    · simp
      split <;> omega
    · simp
      by_cases hn : n = 0
      · subst hn; simp
      · rw [if_neg hn]
        split <;> omega
  show wpAny _ _ (pure ((n : Int) - 1, (-1 : Int), Builtin.Slice.slicePlaces ((n : Int) - 1) (hiOf n hi) (-1))) _ _ s
  rw [e2]
  exact wpAny_pure h
theorem getItem_tuple_back {t sl : Addr} {items : Array Value} {vl vu vs : Value} {hi : Option Int} {Q : Value → Shared → Prop} (ht : IsTup s.heap t items) (hs : s.heap.IsSliceOf sl vl vu vs) (pl : IsPart vl none) (pu : IsPart vu hi) (ps : IsPart vs (some (-1))) (hh : hi = none ∨ hi = some 0)
    (h : Q (.ref s.heap.objs.size) { s with heap := s.heap.push { cls := .type "tuple", data := .seq ((items.toList.drop (cutOf hi)).reverse).toArray } })
    (hsz : items.size ≤ sizeLine) : wpAny (model prog w) A (getItem (.ref t) (.ref sl)) Q E s := by
  have htake : sizeOk (.seq ((items.toList.drop (cutOf hi)).reverse).toArray) := by
    show ((items.toList.drop (cutOf hi)).reverse).toArray.size ≤ sizeLine
    rw [List.size_toArray, List.length_reverse, List.length_drop, Array.length_toList]
    omega
  obtain ⟨os, hos, hcs, hds⟩ := id hs
  have hTs : s.TypeIs (.ref sl) "slice" := ⟨os, hos, hcs⟩
  unfold getItem
  try with_reducible refine wpAny_holding ?_
  first | refine wpAny_bind (wpAny_pure ?_) | skip
  refine wpAny_bind (wpAny_sequenceKey ht.typeIs (by decide) ?_)
  refine wpAny_bind (wpAny_callSpecial?_slot (name := Str.ofString "__getitem__") ht.typeIs PyProof.Rows.slot_tuple_getitem
    (wpAny_call_entry PyProof.Rows.slot_tuple_getitem ht.typeIs entry_tuple_getitem ?_ (args_tuple_getitem _ _)))
  show wpAny _ _ (Builtin.Tuple.tupleItemsOf (.ref t) >>= _) _ _ s
  refine wpAny_bind (tupleItemsOf_ ht ?_)
  refine wpAny_bind (wpAny_typeOf hTs ?_)
  rw [if_pos (by decide)]
  refine wpAny_bind (sliceApplied_neg hs pl pu ps hh ?_)
  have hno : ¬ ((((items.size : Int) - 1) == 0 && (-1 : Int) == 1 && (items.size - cutOf hi) == items.size) = true) := by
    intro q
    rw [Bool.and_eq_true, Bool.and_eq_true] at q
    exact absurd q.1.2 (by decide)
  show wpAny _ _ (if ((((items.size : Int) - 1) == 0 && (-1 : Int) == 1 && (items.size - cutOf hi) == items.size)) = true then _ else _) _ _ s
  rw [if_neg hno, pick_back items (items.size - cutOf hi) (Nat.sub_le _ _)]
  have e3 : (items.toList.drop (items.size - (items.size - cutOf hi))).reverse = (items.toList.drop (cutOf hi)).reverse := by
    by_cases hc : cutOf hi ≤ items.size
    · rw [show items.size - (items.size - cutOf hi) = cutOf hi by omega]
    · have h1 : items.size = 0 := by
        have : cutOf hi ≤ 1 := by unfold cutOf; split <;> omega
        omega
      have h2 : items.toList = [] := by
        have : items.toList.length = 0 := by rw [Array.length_toList]; exact h1
        exact List.eq_nil_of_length_eq_zero this
      rw [h2]; simp
  rw [e3]
  first
    | exact wpAny_bind (m := Builtin.Tuple.tupleExact _) (wpAny_newObj_type (wpAny_pure ⟨_, rfl, wpAny_pure h⟩) htake)
    | exact wpAny_bind (m := Builtin.Tuple.tupleExact _) (wpAny_newObj_type (wpAny_bind (wpAny_pure (wpAny_pure ⟨_, rfl, wpAny_pure h⟩))) htake)
    | exact wpAny_bind (wpAny_bind (m := Builtin.Tuple.tupleExact _) (wpAny_newObj_type (wpAny_pure (wpAny_pure ⟨_, rfl, wpAny_pure h⟩)) htake))
    | exact wpAny_bind (wpAny_bind (m := Builtin.Tuple.tupleExact _) (wpAny_newObj_type (wpAny_pure ⟨_, rfl, wpAny_pure h⟩) htake))
end
end HT
namespace EV
open PySem PySem.Spec PyProof.Rows L2
section
variable {X : Cx}
/-- t[:hi:-1] of a tuple -/
def tBackT (K : PySem.W.Frag) (hi : Option Int) (te : TE) : TE := fun σ H Q => te σ H fun x H1 => ∃ a xs, x = .ref a ∧ SqT K H1 a xs ∧ ∀ p, H1 p = none → Q (.ref p) (upd H1 p (.tup (xs.drop (HT.cutOf hi)).reverse))
theorem pe_backT {e : Expr} {te : TE} {hie : Option Expr} {hi : Option Int} {k : Nat} {p1 p2 p3 pos : Pos} (hh : hi = none ∨ hi = some 0) (he : PE X e te) (hhi : PO X hie (fun σ H Q => Q hi H)) : PE X (.Subscript e (.Slice none hie (some (.UnaryOp .USub (.Constant (.int 1) k p1) p2)) p3) pos) (tBackT X.K hi te) := by
  refine ⟨fun pins s σ H Q I h => ?_⟩
  refine Subscript_ (thn (he.run pins s σ H _ I h) fun v s1 ⟨x, H1, I1, r1, q1⟩ => ?_)
  obtain ⟨a, xs, ex, hx, q⟩ := q1
  subst ex
  cases r1
  have hst : PO X (some (.UnaryOp .USub (.Constant (.int 1) k p1) p2)) (tPart (tUn (rU fun i => .int (-i)) (tC (.int 1)))) := po_some (pe_un un_neg pe_int)
  refine wpAny_Slice (thn (po_none.run pins s1 σ H1 (fun o H2 => o = none ∧ H2 = H1) I1 ⟨rfl, rfl⟩) fun vl s2 ⟨l, H2, I2, pl, el, e2⟩ => ?_)
  subst el e2
  refine thn (hhi.run pins s2 σ H2 (fun o H3 => o = hi ∧ H3 = H2) I2 ⟨rfl, rfl⟩) fun vu s3 ⟨u, H3, I3, pu, eu, e3⟩ => ?_
  subst eu e3
  refine thn (hst.run pins s3 σ H3 (fun o H4 => o = some (-1) ∧ H4 = H3) I3 ⟨1, rfl, -1, rfl, rfl, rfl⟩) fun vs s4 ⟨o, H4, I4, ps, eo, e4⟩ => ?_
  subst eo e4
  have I5 : Inv X pins σ H4 { s4 with heap := s4.heap.push { cls := .type "slice", data := .fields #[vl, vu, vs] } } := I4.kept (t' := s4.toks) fun b ob q => Heap.get?_push_of_some _ q
  obtain ⟨its, r, ht, hz⟩ := I5.tuple hx
  have hlen := r.length
  show wpAny (model X.prog X.w) X.A (subscriptTail e (.Slice none hie (some (.UnaryOp .USub (.Constant (.int 1) k p1) p2)) p3) (.ref a) (.ref s4.heap.objs.size)) (EP X pins σ Q) X.xe { s4 with heap := s4.heap.push { cls := .type "slice", data := .fields #[vl, vu, vs] } }
  refine tail_any (ops := [.ref a, .ref s4.heap.objs.size]) ht.typeIs (PyProof.Rows.slot_tuple_getitem.lookup) ?_ (by with_unfolding_all rfl)
  refine HT.getItem_tuple_back ht (Heap.IsSliceOf.new _ vl vu vs) pl pu ps hh ?_ (by rw [List.size_toArray]; omega)
  refine ⟨.ref _, _, I5.laid (t' := s4.toks) (o := .tup (xs.drop (HT.cutOf u)).reverse) (fun b ob q => Heap.get?_push_of_some _ q) (Nat.le_refl _) ?_, rfl, q _ (I5.hok.fresh (Nat.le_refl _))⟩
  refine ⟨?_, _, (r.drop (HT.cutOf u)).reverse, IsTup.new _ _⟩
  rw [List.length_reverse, List.length_drop]
  omega
end
section
variable {T : Tb} {X : Cx} {W : WX}
/-- x[::-1], a list or a tuple -/
def fRevU (v : Vl) (h : Hs) : Rs Vl := match v with
  | .p (.tup ds) => ret (.p (.tup ds.reverse)) h
  | v => fRev v h
theorem PE.orE {e : Expr} {t t' : TE} (h : PE X e t) (h' : PE X e t') : PE X e (fun σ H Q => t σ H Q ∨ t' σ H Q) := ⟨fun pins s σ H Q I q => q.elim (h.run pins s σ H Q I) (h'.run pins s σ H Q I)⟩
theorem sim_revT {e : Expr} {m : ME} {hie : Option Expr} {hi : Option Int} {k : Nat} {p1 p2 p3 pos : Pos} (hh : hi = none ∨ hi = some 0) (he : SimE T X W e m) (hhi : PO X hie (fun σ H Q => Q hi H)) : SimE T X W (.Subscript e (.Slice none hie (some (.UnaryOp .USub (.Constant (.int 1) k p1) p2)) p3) pos)
    (m1 (fun v h => match v with | .p (.tup ds) => ret (.p (.tup (ds.drop (HT.cutOf hi)).reverse)) h | _ => none) m) := by
  refine PE.weak (pe_backT hh he hhi) fun σ H Q ⟨S, M, h, sr, hr, p⟩ => tr_then sr hr p fun v h1 M1 H1 x e1 sr1 hr1 r1 p1 => ?_
  split at p1
  · cases r1 with
    | p r1 =>
      cases r1 with
      | tup ht ra => exact ⟨_, _, rfl, ht.sqT, fun q hq => p1.ret (.fresh hq) (hr1.fresh hq) (new_tup hr1 hq (ra.drop _).reverse)⟩
  · exact p1.elim
theorem sim_revU {e : Expr} {m : ME} {k : Nat} {p1 p2 p3 pos : Pos} (he : SimE T X W e m) : SimE T X W (.Subscript e (.Slice none none (some (.UnaryOp .USub (.Constant (.int 1) k p1) p2)) p3) pos) (m1 fRevU m) := by
  refine ⟨fun pins s σ H Q I ⟨S, M, h0, sr, hr, p⟩ => ?_⟩
  by_cases c : ∃ ds h', m S h0 = some (.ok (.p (.tup ds)), h')
  · obtain ⟨ds, h', ex⟩ := c
    refine (sim_revT (hi := none) (.inl rfl) he ⟨fun pins s σ H Q I q => po_none.run pins s σ H Q I q⟩).run pins s σ H Q I ⟨S, M, h0, sr, hr, ?_⟩
    unfold m1 at p ⊢
    rw [ex] at p ⊢
    simpa [bnd, fRevU, HT.cutOf] using p
  · refine (sim_rev he).run pins s σ H Q I ⟨S, M, h0, sr, hr, ?_⟩
    unfold m1 at p ⊢
    match q : m S h0, p with
    | some (.error c, h'), p => exact p
    | some (.ok v, h'), p =>
      have e : fRevU v h' = fRev v h' := by
        unfold fRevU
        split
        · exact absurd ⟨_, _, q⟩ c
        · rfl
      simpa [bnd, e] using p
/-- t[:0:-1] -/
def fRev0 (v : Vl) (h : Hs) : Rs Vl := match v with
  | .p (.tup ds) => ret (.p (.tup (ds.drop 1).reverse)) h
  | _ => none
theorem sim_rev0 {e : Expr} {m : ME} {k k0 : Nat} {p0 p1 p2 p3 pos : Pos} (he : SimE T X W e m) : SimE T X W (.Subscript e (.Slice none (some (.Constant (.int 0) k0 p0)) (some (.UnaryOp .USub (.Constant (.int 1) k p1) p2)) p3) pos) (m1 fRev0 m) :=
  sim_revT (hi := some 0) (.inr rfl) he ⟨fun pins s σ H Q I q => (po_some pe_int).run pins s σ H Q I ⟨0, rfl, q⟩⟩
end
end EV
end T30
section T31
set_option Elab.async false
set_option linter.all false
set_option maxRecDepth 100000
set_option maxHeartbeats 1000000
namespace EV
open PySem PySem.Spec PyProof.Rows L2
section
variable {T : Tb} {X : Cx} {W : WX} {k : Nat}
/-! ### -o, o an instance -/
def rNegO (T : Tb) (K : PySem.W.Frag) (c : Nat) (g : List Vl → Hs → Rs Vl) : V → Hp → VK → Prop := fun x H Q => ∃ a dx gs, x = .ref a ∧ H a = some (.ins (T.cls c) dx gs) ∧ spF T K g [.ref a] H Q (fun _ _ _ => False)
theorem un_negO {c : Nat} {g : List Vl → Hs → Rs Vl} (Z : SpecF T X k c "__neg__" g) (hr : Room k X.A) : UnR X (unaryOp .USub) (rNegO T X.K c g) := by
  intro pins s σ H x v Q I rx h
  obtain ⟨a, dx, gs, rfl, ea, hsp⟩ := h
  obtain ⟨j, q, hj, hs, hf, _, F⟩ := Z.ex
  obtain ⟨mA, O, _⟩ := ins_get I.hok ea
  obtain ⟨od, J, _⟩ := O.look
  obtain ⟨m, fr⟩ := I.fr
  cases rx
  exact PySem.W.ksp_neg fr I.ok.mod.kin J hs hf (run_in0 (vs := [V.ref a]) F (hr.mono (by omega)) I (.cons (show RelV (V.ref a) (Value.ref a) from rfl) .nil) hsp fun u s' v H' I' rv q2 => ⟨v, H', I', rv, q2⟩)
def fNegO (c : Nat) (g : List Vl → Hs → Rs Vl) (v : Vl) (h : Hs) : Rs Vl := match fldV v h with
  | some (c', _) => if c' = c then quiet (g [v] h) else none
  | none => fUSub v h
theorem UnR.or {f : Value → Sem Value} {r r' : V → Hp → VK → Prop} (h : UnR X f r) (h' : UnR X f r') : UnR X f (fun x H Q => r x H Q ∨ r' x H Q) :=
  fun pins s σ H x v Q I rx q => q.elim (h pins s σ H x v Q I rx) (h' pins s σ H x v Q I rx)
theorem s_negO {c : Nat} {g : List Vl → Hs → Rs Vl} : Op1 T X.K (fNegO c g) (fun x H Q => rNegO T X.K c g x H Q ∨ (rU fun i => .int (-i)) x H Q) := by
  intro M H h v x Er Q hr r p
  unfold fNegO at p
  split at p
  · rename_i c' fs q
    split at p
    · rename_i hc
      subst hc
      obtain ⟨ad, dx, gs, rfl, z, _, _⟩ := r.fld hr q
      exact .inl ⟨ad, dx, gs, rfl, z, [v], M, h, .cons r .nil, hr, post_quiet p⟩
    · exact p.elim
  · exact .inr (s_neg M H h v x Er Q hr r p)
theorem sim_negO {c : Nat} {g : List Vl → Hs → Rs Vl} {ea : Expr} {a : ME} {pos : Pos} (Z : SpecF T X k c "__neg__" g) (hr : Room k X.A) (ha : SimE T X W ea a) : SimE T X W (.UnaryOp .USub ea pos) (m1 (fNegO c g) a) :=
  sim_un (UnR.or (un_negO Z hr) un_neg) s_negO ha
/-! ### isinstance(x, C), C a class of one's own -/
structure IsF (T : Tb) (K : PySem.W.Frag) (c : Nat) : Prop where
  ha : PySem.W.findIn K (.ref (T.cls c)) "__class__" = some (some (.builtin "object.__class__"))
  hn : PySem.W.specialIn K (.builtin "object.__class__") "__get__" = some (some (.builtin "getset_descriptor.__get__"))
  tk : PySem.W.takesIn K (.builtin "object.__class__") = some true
  hm : PySem.W.mroIn K (T.cls c) (.type "object") = some true
  ty : ∀ t ∈ ["NoneType", "bool", "int", "str", "tuple", "list", "dict"], PySem.W.kitOne K (.type t) (.ref (T.cls c)) = some false
def fIsO (c : Nat) (v : Vl) (h : Hs) : Rs Vl := match fldV v h with
  | some (c', _) => if c' = c then pB true h else none
  | none => match tyV' v h with
    | some _ => pB false h
    | none => none
theorem tyV_in {v : Vl} {h : Hs} {t : String} (e : tyV' v h = some t) : t ∈ ["NoneType", "bool", "int", "str", "tuple", "list", "dict"] := by
  unfold tyV' at e
  split at e <;> first
    | (cases e; decide)
    | (split at e <;> first | (cases e; decide) | cases e)
    | cases e
theorem sim_isO (c : Nat) {e : Expr} {m : ME} {cn : Str} {p p2 pos : Pos} (Z : IsF T X.K c) (C : ClsF T X.K c) (hmc : X.mg cn = some (.ref (T.cls c))) (hm : X.mg "isinstance" = none) (ha : SimE T X W e m) (hg : Gl X "isinstance" := by rfl) (hg2 : Gl X cn := by rfl)
    (hdb : (cn == ("__debug__" : Str)) = false := by decide)
    (he : starEach [e, .Name cn p2] X.env = (false, eval e X.env) :: starEach [.Name cn p2] X.env := by rfl) (he2 : starEach [.Name cn p2] X.env = (false, eval (.Name cn p2) X.env) :: starEach [] X.env := by rfl) (hpl : (backTo pos (starEach [.Name cn p2] X.env)).any (·.1) = false := by rfl) :
    SimE T X W (.Call (.Name "isinstance" p) [e, .Name cn p2] [] pos) (m1 (fIsO c) m) := by
  have hp : PA X [e, .Name cn p2] (tCons (tr T X.K W m) (tCons (tC (.ref (T.cls c))) tNil)) := pa_cons ha (pa_cons (pe_glob (v := .ref (T.cls c)) hg2 hmc rfl hdb) pa_nil he2) he
  refine PE.weak (pe_callB call_isi hg hm boot_isinstance hp (he := he) (hpl := hpl)) fun σ H Q ⟨S, M, h, sr, hr, p⟩ => tr_then sr hr p fun v h1 M1 H1 x e1 sr1 hr1 r1 p1 => ?_
  unfold fIsO at p1
  split at p1
  · rename_i c' fs q
    split at p1
    · rename_i hc
      subst hc
      obtain ⟨ad, dx, gs, rfl, z, _, _⟩ := r1.fld hr1 q
      refine ⟨.ref ad, .ref (T.cls c'), .ref (T.cls c'), .ref (T.cls c'), true, rfl, .own _, .base (.ins z C.cl Z.ha Z.hn Z.tk Z.hm), ?_, p1.ret .refl hr1 (.p (.bl _))⟩
      unfold PySem.W.kitOne
      rw [if_pos (by simp)]
    · exact p1.elim
  · split at p1
    · rename_i t ht
      exact ⟨x, .ref (T.cls c), .type t, .ref (T.cls c), false, rfl, .own _, r1.ty hr1 ht, Z.ty t (tyV_in ht), p1.ret .refl hr1 (.p (.bl _))⟩
    · exact p1.elim
/-! ### TABLE[i], a tuple of the module -/
def mIdxG (ns : List Int) (b : ME) : ME := fun S h => bnd (b S h) fun w h1 => match w with
  | .p (.int i) => match ixN ns.length i with
    | some j => match ns[j]? with
      | some n => pI n h1
      | none => none
    | none => none
  | _ => none
theorem sim_idxG {ns : List Int} {x : Str} {eb : Expr} {b : ME} {p pos : Pos} (hm : ∃ a, X.mg x = some (.ref a) ∧ ∃ (o : Obj) (its : Array Value) (n : Nat), X.K.lookup a = some o ∧ o.cls = .type "tuple" ∧ o.data = .seq its n ∧ its.size ≤ sizeLine ∧ Vals (ns.map V.int) its.toList)
    (hb : SimE T X W eb b) (hg : Gl X x := by rfl) (hd : (x == ("__debug__" : Str)) = false := by decide) (hs : PlainIx eb := by exact fun _ _ => rfl) : SimE T X W (.Subscript (.Name x p) eb pos) (mIdxG ns b) := by
  obtain ⟨a, hm, hk⟩ := hm
  refine PE.weak (pe_ix ix_tup (pe_glob (v := .ref a) hg hm rfl hd) hb hs) fun σ H Q ⟨S, M, h, sr, hr, p⟩ => ?_
  refine tr_then sr hr p fun w h1 M1 H1 y e1 sr1 hr1 r1 p1 => ?_
  split at p1
  · rename_i i
    split at p1
    · rename_i j hj
      split at p1
      · rename_i n hn
        cases r1 with
        | p r1 =>
          cases r1
          refine ⟨a, ns.map V.int, i, .int n, rfl, rfl, .inr hk, ?_, p1.ret .refl hr1 (.p (.int _))⟩
          unfold atI
          rw [List.length_map, hj, Option.bind_some, List.getElem?_map, hn]
          rfl
      · exact p1.elim
    · exact p1.elim
  · exact p1.elim
/-! ### C.m(..), m a classmethod -/
structure CmF (T : Tb) (X : Cx) (k c : Nat) (x m : Str) (g : List Vl → Hs → Rs Vl) : Prop where
  ex : ∃ mc p a, ClX.CRead X.K (T.cls c) mc ∧ ClX.CMet X.K (T.cls c) mc m p a ∧ FnR X.prog X.w X.K X.mg X.base (L2.CX X.prog X.w) k a (spF T X.K g)
  mg : X.mg x = some (.ref (T.cls c))
  fns : T.fns (1000 + c) = T.cls c
theorem run_cm {pins : List (Addr × Obj)} {σ : L2.St} {H : Hp} {s : Shared} {q a C : Addr} {f : List Vl → Hs → Rs Vl} {Q : VK} {us : List Value} {vs : List V} (F : FnR X.prog X.w X.K X.mg X.base (L2.CX X.prog X.w) k a (spF T X.K f)) (tk : Takes X W) (hr : Room k X.A)
    (I : Inv X ((q, PySem.W.methodObj (.ref a) (.ref C)) :: pins) σ H s) (r : Vals vs us) (h : spF T X.K f (.ref C :: vs) H Q (fun c d H' => W c d σ H')) : wpAny (model X.prog X.w) X.A (call (.ref q) us) (EP X pins σ Q) X.xe s := by
  have z : wpAny (model X.prog X.w) X.A (call (.ref q) us) (EP X ((q, PySem.W.methodObj (.ref a) (.ref C)) :: pins) σ Q) X.xe s := by
    refine wpAny_call (PySem.W.method_call (ClX.pin_at I) (codeAny_mono (F X.A X.stack s H (.ref C :: us) (.ref C :: vs) Q _ hr I.env0 (.cons rfl r) h) fun r s' hq => ?_))
    cases r with
    | error e => exact tk e s' (XE.of_call I (fun _ _ _ h => h) hq)
    | ok fl =>
      cases fl with
      | ret u => exact I.after hq
      | next => exact False.elim hq
      | brk => exact False.elim hq
      | cont => exact False.elim hq
  exact thn z fun _ _ y => ClX.unpinE y
def kCm (c : Nat) (g : List Vl → Hs → Rs Vl) (vs : List Vl) (h : Hs) : Rs Vl := g (.p (.fn (1000 + c)) :: vs) h
theorem sim_cm (c : Nat) {x m : Str} {p apos pos : Pos} {e : Expr} {es : List Expr} {a : MA} {g : List Vl → Hs → Rs Vl} {pl : Sem Bool} (Z : CmF T X k c x m g) (tk : Takes X W) (hr : Room k X.A) (hg : Gl X x) (ha : SimA T X W (e :: es) a) (hd : (x == ("__debug__" : Str)) = false := by decide)
    (hst : starEach (e :: es) X.env = (false, eval e X.env) :: starEach es X.env := by rfl) (hpl : (backTo pos (starEach es X.env)).any (·.1) = false := by rfl)
    (ht : eval (.Call (.Attribute (.Name x p) m apos) (e :: es) [] pos) X.env = (do
      let ov ← eval (.Name x p) X.env
      standAt apos.atName
      let (f, first) ← holding [ov] (getMethod ov m pl)
      callWith pos f first (backTo pos (starEach (e :: es) X.env)) (backToKw pos (keywordEach [] X.env))) := by rfl) :
    SimE T X W (.Call (.Attribute (.Name x p) m apos) (e :: es) [] pos) (mAll (kCm c g) a) := by
  obtain ⟨mc, pp, q, r, cm, F⟩ := Z.ex
  refine ⟨fun pins s σ H Q I h => ?_⟩
  have h2 : trA T X.K W a σ H fun vs H1 => spF T X.K g (.ref (T.cls c) :: vs) H1 Q (fun cc d H' => W cc d σ H') := by
    obtain ⟨S, M, h, sr, hr, p⟩ := h
    exact trA_then sr hr p fun vs h1 M1 H1 xs e1 sr1 hr1 r1 p1 => ⟨.p (.fn (1000 + c)) :: vs, M1, h1, .cons (.p (by have z := Rp.fn (T := T) (K := X.K) (M := M1) (H := H1) (1000 + c); rw [Z.fns] at z; exact z)) r1, hr1, p1⟩
  refine PySem.W.methodCall_KW (pl := pl) (thn ((pe_glob (pos := p) (v := .ref (T.cls c)) hg Z.mg rfl hd).run pins s σ H (fun v H1 => v = .ref (T.cls c) ∧ H1 = H) I ⟨rfl, rfl⟩) fun u s1 ⟨v, H1, I1, rv, q1⟩ => ?_) ht
  obtain ⟨rfl, rfl⟩ := q1
  obtain rfl : u = Value.ref (T.cls c) := rv
  refine ClX.getmethcm_ok I1 r cm fun s2 I2 => ?_
  refine ClX.callwith_cm I2 (ClX.base_none I1 (Nat.le_refl _)) cm.fi (thn (ha.run pos _ s2 σ H1 _ I2 h2) fun us s3 ⟨vs, H2, I3, rv, q2⟩ => ⟨⟨ClX.pin_at I3, I3.kIn⟩, ?_⟩) hst hpl
  exact run_cm F tk hr I3 rv q2
/-! ### o.m(..), o an instance -/
structure MethF (T : Tb) (X : Cx) (k c : Nat) (m : Str) (g : List Vl → Hs → Rs Vl) : Prop where
  ex : ∃ a, Meth X.K (T.cls c) m a ∧ FnR X.prog X.w X.K X.mg X.base (L2.CX X.prog X.w) k a (spF T X.K g)
  no : m ∉ T.nms c
def mMethO (c : Nat) (g : List Vl → Hs → Rs Vl) (o : ME) (a : MA) : ME := fun S h => bnd (o S h) fun v h1 => match fldV v h1 with
  | some (c', _) => if c' = c then bnd (a S h1) fun vs h2 => g (v :: vs) h2 else none
  | none => none
theorem lookup_no {gs : List (Str × V)} {m : Str} (h : m ∉ gs.map (·.1)) : gs.lookup m = none := by
  induction gs with
  | nil => rfl
  | cons g gs ih =>
    obtain ⟨n, v⟩ := g
    have h' : m ≠ n ∧ m ∉ gs.map (·.1) := by simpa using h
    have hb : (m == n) = false := by simpa using h'.1
    simp only [List.lookup, hb]
    exact ih h'.2
theorem sim_methO (c : Nat) {m : Str} {o e : Expr} {es : List Expr} {mo : ME} {a : MA} {g : List Vl → Hs → Rs Vl} {apos pos : Pos} {pl : Sem Bool} (Z : MethF T X k c m g) (C : ClsF T X.K c) (tk : Takes X W) (hr : Room k X.A) (ho : SimE T X W o mo) (ha : SimA T X W (e :: es) a)
    (hst : starEach (e :: es) X.env = (false, eval e X.env) :: starEach es X.env := by rfl) (hpl : (backTo pos (starEach es X.env)).any (·.1) = false := by rfl)
    (ht : eval (.Call (.Attribute o m apos) (e :: es) [] pos) X.env = (do
      let ov ← eval o X.env
      standAt apos.atName
      let (f, first) ← holding [ov] (getMethod ov m pl)
      callWith pos f first (backTo pos (starEach (e :: es) X.env)) (backToKw pos (keywordEach [] X.env))) := by rfl) :
    SimE T X W (.Call (.Attribute o m apos) (e :: es) [] pos) (mMethO c g mo a) := by
  obtain ⟨q, hm, F⟩ := Z.ex
  refine ⟨fun pins s σ H Q I ⟨S, M, h, sr, hR, p⟩ => ?_⟩
  have h2 : tr T X.K W mo σ H fun y H1 => ∃ ad dx gs, y = V.ref ad ∧ H1 ad = some (.ins (T.cls c) dx gs) ∧ gs.lookup m = none ∧ trA T X.K W a σ H1 fun vs H2 => spF T X.K g (V.ref ad :: vs) H2 Q (fun cc d H' => W cc d σ H') := by
    refine tr_then sr hR p fun v h1 M1 H1 x e1 sr1 hr1 r1 p1 => ?_
    split at p1
    · rename_i c' fs q1
      split at p1
      · rename_i hc
        subst hc
        obtain ⟨ad, dx, gs, rfl, z, nm, _⟩ := r1.fld hr1 q1
        refine ⟨ad, dx, gs, rfl, z, lookup_no (by rw [nm]; exact fun y => Z.no (List.mem_of_mem_take y)), trA_then sr1 hr1 p1 fun vs h2 M2 H2 xs e2 sr2 hr2 r2 p2 => ⟨v :: vs, M2, h2, .cons (r1.ext e2) r2, hr2, p2⟩⟩
      · exact p1.elim
    · exact p1.elim
  refine PySem.W.methodCall_KW (pl := pl) (thn (ho.run pins s σ H _ I h2) fun u s1 ⟨x, H1, I1, rx, ad, dx, gs, ex, ea, l, q1⟩ => ?_) ht
  subst ex
  obtain rfl : u = Value.ref ad := rx
  refine getmeth_ok I1 ea C.cl hm l ?_
  refine PySem.W.callWith_K (first := [.ref ad]) (h₀ := X.base) I.ok.mod.kin hm.kp (thn (ha.run pos pins s1 σ H1 _ I1 q1) fun us s2 ⟨vs, H2, I2, r, q2⟩ => ⟨I2.kIn, ?_⟩) hst hpl
  exact run_own (us := .ref ad :: us) (vs := .ref ad :: vs) F tk hr I2 (.cons rfl r) q2
theorem sim_methO0 (c : Nat) {m : Str} {o : Expr} {mo : ME} {g : List Vl → Hs → Rs Vl} {apos pos : Pos} {pl : Sem Bool} (Z : MethF T X k c m g) (C : ClsF T X.K c) (tk : Takes X W) (hr : Room k X.A) (ho : SimE T X W o mo)
    (ht : eval (.Call (.Attribute o m apos) [] [] pos) X.env = (do
      let ov ← eval o X.env
      standAt apos.atName
      let (f, first) ← holding [ov] (getMethod ov m pl)
      callWith pos f first (backTo pos (starEach [] X.env)) (backToKw pos (keywordEach [] X.env))) := by rfl) :
    SimE T X W (.Call (.Attribute o m apos) [] [] pos) (mMethO c g mo aNil) := by
  obtain ⟨q, hm, F⟩ := Z.ex
  refine ⟨fun pins s σ H Q I ⟨S, M, h, sr, hR, p⟩ => ?_⟩
  have h2 : tr T X.K W mo σ H fun y H1 => ∃ ad dx gs, y = V.ref ad ∧ H1 ad = some (.ins (T.cls c) dx gs) ∧ gs.lookup m = none ∧ spF T X.K g [V.ref ad] H1 Q (fun cc d H' => W cc d σ H') := by
    refine tr_then sr hR p fun v h1 M1 H1 x e1 sr1 hr1 r1 p1 => ?_
    split at p1
    · rename_i c' fs q1
      split at p1
      · rename_i hc
        subst hc
        obtain ⟨ad, dx, gs, rfl, z, nm, _⟩ := r1.fld hr1 q1
        exact ⟨ad, dx, gs, rfl, z, lookup_no (by rw [nm]; exact fun y => Z.no (List.mem_of_mem_take y)), [v], M1, h1, .cons r1 .nil, hr1, p1⟩
      · exact p1.elim
    · exact p1.elim
  refine PySem.W.methodCall_KW (pl := pl) (thn (ho.run pins s σ H _ I h2) fun u s1 ⟨x, H1, I1, rx, ad, dx, gs, ex, ea, l, q1⟩ => ?_) ht
  subst ex
  obtain rfl : u = Value.ref ad := rx
  refine getmeth_ok I1 ea C.cl hm l ?_
  exact PySem.W.callWith_K0 (first := [.ref ad]) I1.kIn hm.kp (run_own (us := [.ref ad]) (vs := [.ref ad]) F tk hr I1 (.cons rfl .nil) q1)
end
end EV
end T31
section T32
set_option Elab.async false
set_option linter.all false
set_option maxRecDepth 100000
set_option maxHeartbeats 1000000
namespace EV
open PySem PySem.Spec PyProof.Rows L2
/-! ### max(.., default=d), min(.., default=d) of ints, of pairs (int, tuple of ints) -/
def isI : PyData → Bool
  | .int _ => true
  | _ => false
def isIs : PyData → Bool
  | .tuple l => l.all isI
  | _ => false
def isPI : PyData → Bool
  | .tuple [a, b] => isI a && isIs b
  | _ => false
theorem alike_I {x y : PyData} (hx : isI x = true) (hy : isI y = true) : PySem.W.alike x y = true := by
  cases x <;> simp [isI] at hx
  cases y <;> simp [isI] at hy
  rfl
theorem alikeAll_I : ∀ {xs ys : List PyData}, xs.all isI = true → ys.all isI = true → PySem.W.alikeAll xs ys = true
  | [], _, _, _ => by rw [PySem.W.alikeAll]
  | _ :: _, [], _, _ => by rw [PySem.W.alikeAll]
  | x :: xs, y :: ys, hx, hy => by
    rw [List.all_cons, Bool.and_eq_true] at hx hy
    rw [PySem.W.alikeAll, alike_I hx.1 hy.1, alikeAll_I hx.2 hy.2]; rfl
theorem alike_Is {x y : PyData} (hx : isIs x = true) (hy : isIs y = true) : PySem.W.alike x y = true := by
  cases x <;> simp only [isIs, Bool.false_eq_true] at hx
  cases y <;> simp only [isIs, Bool.false_eq_true] at hy
  rw [PySem.W.alike]; exact alikeAll_I hx hy
theorem alike_PI {x y : PyData} (hx : isPI x = true) (hy : isPI y = true) : PySem.W.alike x y = true := by
  unfold isPI at hx hy
  split at hx
  · split at hy
    · rw [Bool.and_eq_true] at hx hy
      rw [PySem.W.alike, PySem.W.alikeAll, PySem.W.alikeAll, PySem.W.alikeAll, alike_I hx.1 hy.1, alike_Is hx.2 hy.2]; rfl
    · cases hy
  · cases hx
def alikeOk (l : List PyData) : Bool := l.all isI || l.all isPI
theorem alikeOk_all {l : List PyData} (h : alikeOk l = true) : PySem.W.AlikeAll l := by
  unfold alikeOk at h
  rw [Bool.or_eq_true] at h
  rcases h with h | h
  · rw [List.all_eq_true] at h
    refine ⟨fun x hx y hy => alike_I (h x hx) (h y hy), fun x hx z => ?_⟩
    have := h x hx
    rw [z] at this; cases this
  · rw [List.all_eq_true] at h
    refine ⟨fun x hx y hy => alike_PI (h x hx) (h y hy), fun x hx z => ?_⟩
    have := h x hx
    rw [z] at this; cases this
mutual
/-- data without objects of one's own, and its way back -/
def plainP : P → Bool
  | .non => true
  | .bl _ => true
  | .int _ => true
  | .str _ => true
  | .tup ds => plainA ds
  | .lst ds => plainA ds
  | _ => false
def plainA : List P → Bool
  | [] => true
  | d :: ds => plainP d && plainA ds
end
mutual
def backP : PyData → P
  | .none => .non
  | .bool b => .bl b
  | .int i => .int i
  | .str x => .str x
  | .tuple l => .tup (backA l)
  | .list l => .lst (backA l)
  | .dict _ => .non
def backA : List PyData → List P
  | [] => []
  | d :: ds => backP d :: backA ds
end
mutual
theorem back_py : ∀ (d : P) (x : PyData), plainP d = true → pyOf d = some x → backP x = d
  | .non, x, _, e => by simp only [pyOf, Option.some.injEq] at e; subst e; rfl
  | .bl b, x, _, e => by simp only [pyOf, Option.some.injEq] at e; subst e; rfl
  | .int b, x, _, e => by simp only [pyOf, Option.some.injEq] at e; subst e; rfl
  | .str b, x, _, e => by simp only [pyOf, Option.some.injEq] at e; subst e; rfl
  | .tup ds, x, p, e => by
    simp only [pyOf] at e
    cases q : pyAll ds with
    | none => rw [q] at e; cases e
    | some l => rw [q] at e; cases e; rw [backP, back_pyA ds l (by simpa [plainP] using p) q]
  | .lst ds, x, p, e => by
    simp only [pyOf] at e
    cases q : pyAll ds with
    | none => rw [q] at e; cases e
    | some l => rw [q] at e; cases e; rw [backP, back_pyA ds l (by simpa [plainP] using p) q]
  | .ins _ _, _, p, _ => by simp [plainP] at p
  | .dct _ _, _, p, _ => by simp [plainP] at p
  | .scr _, _, p, _ => by simp [plainP] at p
  | .fn _, _, p, _ => by simp [plainP] at p
  | .mem _ _, _, p, _ => by simp [plainP] at p
theorem back_pyA : ∀ (ds : List P) (l : List PyData), plainA ds = true → pyAll ds = some l → backA l = ds
  | [], l, _, e => by simp only [pyAll, Option.some.injEq] at e; subst e; rfl
  | d :: ds, l, p, e => by
    simp only [plainA, Bool.and_eq_true] at p
    simp only [pyAll] at e
    cases q : pyOf d with
    | none => rw [q] at e; cases e
    | some x =>
      rw [q] at e
      cases q2 : pyAll ds with
      | none => rw [q2] at e; cases e
      | some l2 => rw [q2] at e; cases e; rw [backA, back_py d x p.1 q, back_pyA ds l2 p.2 q2]
end
theorem pyAll_at : ∀ {ds : List P} {l : List PyData} {i : Nat} {d : P}, pyAll ds = some l → ds[i]? = some d → ∃ x, l[i]? = some x ∧ pyOf d = some x
  | [], _, _, _, _, h => by simp at h
  | d :: ds, l, i, u, e, h => by
    simp only [pyAll] at e
    cases q : pyOf d with
    | none => rw [q] at e; cases e
    | some x =>
      rw [q] at e
      cases q2 : pyAll ds with
      | none => rw [q2] at e; cases e
      | some l2 =>
        rw [q2] at e; cases e
        cases i with
        | zero => simp at h; subst h; exact ⟨x, rfl, q⟩
        | succ j => exact (pyAll_at (i := j) q2 (by simpa using h)).imp fun y z => ⟨by simpa using z.1, z.2⟩
theorem plainA_at : ∀ {ds : List P} {i : Nat} {d : P}, plainA ds = true → ds[i]? = some d → plainP d = true
  | [], _, _, _, h => by simp at h
  | d :: ds, 0, u, e, h => by simp [plainA] at e; simp at h; subst h; exact e.1
  | d :: ds, i + 1, u, e, h => by simp [plainA] at e; exact plainA_at (i := i) e.2 (by simpa using h)
def bestD (mx : Bool) (y : PyData) (ys : List PyData) : PyData := if mx then PySem.W.maxD y ys else PySem.W.minD y ys
section
variable {T : Tb} {X : Cx} {W : WX} {k : Nat}
def rMmDf (mx : Bool) (K : PySem.W.Frag) (vs zs : List V) (H : Hp) (Q : VK) : Prop := ∃ (a : Addr) (xs : List V) (l : List PyData) (w : V), vs = [.ref a] ∧ zs = [w] ∧ SqL K H a xs ∧ DpAll K H xs l ∧ alikeOk l = true ∧ PyData.depthAll l ≤ 60 ∧ (l = [] → Q w H) ∧
  (∀ y ys, l = y :: ys → ∀ (i : Nat) (x : V), xs[i]? = some x → l[i]? = some (bestD mx y ys) → Q x H)
theorem vals_at : ∀ {xs : List V} {us : List Value} {i : Nat} {u : Value}, Vals xs us → us[i]? = some u → ∃ x, xs[i]? = some x ∧ RelV x u
  | _, _, i, u, .nil, h => by simp at h
  | _, _, 0, u, .cons r _, h => by simp at h; subst h; exact ⟨_, rfl, r⟩
  | _, _, i + 1, u, .cons _ rr, h => (vals_at (i := i) rr (by simpa using h)).imp fun x z => ⟨by simpa using z.1, z.2⟩
theorem cr_mmDf (mx : Bool) (hc : X.calm = true) (hu : X.A.units + 65 < cLine) : CallRK X (.builtin (if mx then "max" else "min")) [Str.ofString "default"] (rMmDf mx X.K) := by
  intro pins s σ H vs zs us ws Q I r rz h
  obtain ⟨a, xs, l, w, rfl, rfl, hs, ha, ok, dp, q0, q1⟩ := h
  obtain ⟨its, rv, hl, _⟩ := I.list hs
  obtain rfl := Vals.ref1 r
  obtain ⟨w1, rfl, e1⟩ := vals1 rz
  obtain ⟨as, hr⟩ := Dp.readsAll I l xs its ha rv
  have key : ∀ (y : PyData) (ys : List PyData) (i : Nat) (v : Value) (h' : Heap) (tk : Nat) (bs : List Addr), l = y :: ys → its.toArray[i]? = some v → Reads h' v (bestD mx y ys) bs → (∀ b o, s.heap.get? b = some o → h'.get? b = some o) → EP X pins σ Q v { s with heap := h', toks := tk } := by
    intro y ys i v h' tk bs el hv rd hk
    obtain ⟨x, hx, rx⟩ := vals_at rv (by simpa using hv : its[i]? = some v)
    obtain ⟨cs, r1, hil, _, _⟩ := PySem.W.readsAll_at hr i v (by simpa using hv)
    have e2 : l.getD i .none = bestD mx y ys := (Reads.unique (PySem.W.reads_keeps hk r1) _ _ rd).1
    refine ⟨x, H, I.kept hk, rx, q1 y ys el i x hx ?_⟩
    rw [← e2, List.getD_eq_getElem?_getD, List.getElem?_eq_getElem hil]; rfl
  cases mx with
  | true => exact PySem.W.max_list_default (I.ok.hd hc) hl.isList hr (alikeOk_all ok) (by omega) (fun el h' tk hk => ⟨w, H, I.kept hk, e1, q0 el⟩) key
  | false => exact PySem.W.min_list_default (I.ok.hd hc) hl.isList hr (alikeOk_all ok) (by omega) (fun el h' tk hk => ⟨w, H, I.kept hk, e1, q0 el⟩) key
def kMmDf (mx : Bool) (v w : Vl) (h : Hs) : Rs Vl := match v with
  | .p (.lst ds) => if plainA ds = true then match pyAll ds with
      | some [] => ret w h
      | some (y :: ys) => if alikeOk (y :: ys) = true ∧ PyData.depthAll (y :: ys) ≤ 60 then ret (.p (backP (bestD mx y ys))) h else none
      | none => none
    else none
  | _ => none
theorem sim_mmDf (mx : Bool) {x : Str} {p kpos pos : Pos} {e d : Expr} {a b : ME} (hr : Room k X.A) (hc : X.calm = true) (hx : x = Str.ofString (if mx then "max" else "min")) (hm : X.mg x = none) (ha : SimE T X W e a) (hb : SimE T X W d b) (hg : Gl X x) (hv : bootBuiltins x = some (.builtin (if mx then "max" else "min")))
    (hn : x ≠ "__name__") (hdb : (x == ("__debug__" : Str)) = false)
    (hst : starEach [e] X.env = (false, eval e X.env) :: starEach [] X.env := by rfl)
    (he : backTo pos (starEach [e] X.env) = (false, eval e X.env) :: backTo pos (starEach [] X.env) := by rfl) (hpl : (backTo pos (starEach [e] X.env)).any (·.1) = false := by rfl)
    (hall : (backToKw pos (keywordEach [⟨some (Str.ofString "default"), d, kpos⟩] X.env)).all (·.1.isSome) = true := by rfl) (hnone : (backToKw pos (keywordEach [⟨some (Str.ofString "default"), d, kpos⟩] X.env)).any (·.1.isNone) = false := by rfl)
    (hks : (backToKw pos (keywordEach [⟨some (Str.ofString "default"), d, kpos⟩] X.env)).filterMap (·.1) = [Str.ofString "default"] := by rfl) :
    SimE T X W (.Call (.Name x p) [e] [⟨some (Str.ofString "default"), d, kpos⟩] pos) (m2 (kMmDf mx) a b) := by
  refine PE.weak (pe_callBK (cr_mmDf mx hc (room65 hr)) hg hm hv (pa_cons ha pa_nil hst) (pk_cons hb pk_nil) hn hdb he hpl hall hnone hks) fun σ H Q ⟨S, M, h, sr, hr, p⟩ => ?_
  refine tr_then sr hr p fun v h1 M1 H1 x1 e1 sr1 hr1 r1 p1 => ?_
  refine tr_then sr1 hr1 p1 fun w h2 M2 H2 x2 e2 sr2 hr2 r2 p2 => ?_
  have r1' := r1.ext e2
  unfold kMmDf at p2
  split at p2
  · rename_i ds
    split at p2
    · rename_i hp
      cases r1' with
      | p r1' =>
        cases r1' with
        | lst hl nl ra =>
          rename_i ad xs
          split at p2
          · rename_i hq
            refine ⟨ad, xs, [], x2, rfl, rfl, .of hl, ra.dp hq, rfl, by decide, fun _ => p2.ret .refl hr2 r2, fun y ys e => by cases e⟩
          · rename_i y ys hq
            split at p2
            · rename_i hz
              refine ⟨ad, xs, y :: ys, x2, rfl, rfl, .of hl, ra.dp hq, hz.1, hz.2, fun e => (by cases e), fun y' ys' e i x hx hi => ?_⟩
              cases e
              obtain ⟨dd, hd, rd⟩ := ra.get' hx
              obtain ⟨z, hz1, hz2⟩ := pyAll_at hq hd
              have ez : z = bestD mx y ys := Option.some.inj (hz1.symm.trans hi)
              subst ez
              refine p2.ret .refl hr2 ?_
              rw [back_py dd _ (plainA_at hp hd) hz2]
              exact .p rd
            · exact p2.elim
          · exact p2.elim
    · exact p2.elim
  · exact p2.elim
theorem sim_maxDf {p kpos pos : Pos} {e d : Expr} {a b : ME} (hr : Room k X.A) (hc : X.calm = true) (hm : X.mg "max" = none) (ha : SimE T X W e a) (hb : SimE T X W d b) (hg : Gl X "max" := by rfl)
    (hst : starEach [e] X.env = (false, eval e X.env) :: starEach [] X.env := by rfl)
    (hall : (backToKw pos (keywordEach [⟨some (Str.ofString "default"), d, kpos⟩] X.env)).all (·.1.isSome) = true := by rfl) (hnone : (backToKw pos (keywordEach [⟨some (Str.ofString "default"), d, kpos⟩] X.env)).any (·.1.isNone) = false := by rfl)
    (hks : (backToKw pos (keywordEach [⟨some (Str.ofString "default"), d, kpos⟩] X.env)).filterMap (·.1) = [Str.ofString "default"] := by rfl)
    (he : backTo pos (starEach [e] X.env) = (false, eval e X.env) :: backTo pos (starEach [] X.env) := by rfl) (hpl : (backTo pos (starEach [e] X.env)).any (·.1) = false := by rfl) :
    SimE T X W (.Call (.Name "max" p) [e] [⟨some (Str.ofString "default"), d, kpos⟩] pos) (m2 (kMmDf true) a b) :=
  sim_mmDf true hr hc rfl hm ha hb hg (by decide +kernel) (by decide) (by decide) hst he hpl hall hnone hks
theorem sim_minDf {p kpos pos : Pos} {e d : Expr} {a b : ME} (hr : Room k X.A) (hc : X.calm = true) (hm : X.mg "min" = none) (ha : SimE T X W e a) (hb : SimE T X W d b) (hg : Gl X "min" := by rfl)
    (hst : starEach [e] X.env = (false, eval e X.env) :: starEach [] X.env := by rfl)
    (hall : (backToKw pos (keywordEach [⟨some (Str.ofString "default"), d, kpos⟩] X.env)).all (·.1.isSome) = true := by rfl) (hnone : (backToKw pos (keywordEach [⟨some (Str.ofString "default"), d, kpos⟩] X.env)).any (·.1.isNone) = false := by rfl)
    (hks : (backToKw pos (keywordEach [⟨some (Str.ofString "default"), d, kpos⟩] X.env)).filterMap (·.1) = [Str.ofString "default"] := by rfl)
    (he : backTo pos (starEach [e] X.env) = (false, eval e X.env) :: backTo pos (starEach [] X.env) := by rfl) (hpl : (backTo pos (starEach [e] X.env)).any (·.1) = false := by rfl) :
    SimE T X W (.Call (.Name "min" p) [e] [⟨some (Str.ofString "default"), d, kpos⟩] pos) (m2 (kMmDf false) a b) :=
  sim_mmDf false hr hc rfl hm ha hb hg (by decide +kernel) (by decide) (by decide) hst he hpl hall hnone hks
end
end EV
end T32
section T33
set_option Elab.async false
set_option linter.all false
set_option maxRecDepth 100000
set_option maxHeartbeats 1000000
namespace EV
open PySem PySem.Spec PyProof.Rows L2
theorem nodup_bound : ∀ (n : Nat) (l : List Nat), l.Nodup → (∀ x ∈ l, x < n) → l.length ≤ n
  | 0, l, _, h => by
    cases l with
    | nil => exact Nat.le_refl _
    | cons x l => exact absurd (h x List.mem_cons_self) (Nat.not_lt_zero _)
  | n + 1, l, nd, h => by
    have ih := nodup_bound n (l.erase n) (nd.erase n) fun x hx => by
      have h1 := (List.Nodup.mem_erase_iff nd).mp hx
      have := h x h1.2
      omega
    have := @List.length_erase _ _ _ n l
    split at this <;> omega
theorem nodup_map' {α β : Type} {f : α → β} : ∀ {l : List α}, (∀ x ∈ l, ∀ y ∈ l, f x = f y → x = y) → l.Nodup → (l.map f).Nodup
  | [], _, _ => List.nodup_nil
  | a :: l, inj, nd => by
    have nd' := List.nodup_cons.mp nd
    rw [List.map_cons, List.nodup_cons]
    refine ⟨fun z => ?_, nodup_map' (fun x hx y hy => inj x (List.mem_cons_of_mem _ hx) y (List.mem_cons_of_mem _ hy)) nd'.2⟩
    obtain ⟨b, hb, e⟩ := List.mem_map.mp z
    have := inj b (List.mem_cons_of_mem _ hb) a List.mem_cons_self e
    exact nd'.1 (by rw [← this]; exact hb)
/-- the number of a key -/
def keyNo : List Key → Nat
  | [.inl i, .inl j] => i.toNat * 64 + j.toNat
  | _ => 0
section
variable {T : Tb} {K : PySem.W.Frag} {M M' : Trk} {H H' : Hp} {h : Hs}
theorem MemOk.few {c : Nat} {fs : List P} {kvs : List (List Key × V)} (m : MemOk T K M H c fs kvs) : kvs.length ≤ 4096 := by
  have q := nodup_bound 4096 ((kvs.map (·.1)).map keyNo) ?_ ?_
  · simpa using q
  · refine nodup_map' (fun x hx y hy e => ?_) m.nd
    obtain ⟨p, hp, rfl⟩ := List.mem_map.mp hx
    obtain ⟨q, hq, rfl⟩ := List.mem_map.mp hy
    obtain ⟨i, j, e1, _, _, _, _, _⟩ := m.ok p hp
    obtain ⟨i', j', e2, _, _, _, _, _⟩ := m.ok q hq
    simp only [e1, e2, keyNo] at e ⊢
    have h1 : i = i' := by omega
    have h2 : j = j' := by omega
    rw [h1, h2]
  · intro x hx
    obtain ⟨y, hy, rfl⟩ := List.mem_map.mp hx
    obtain ⟨p, hp, rfl⟩ := List.mem_map.mp hy
    obtain ⟨i, j, e1, _, _, _, _, _⟩ := m.ok p hp
    simp only [e1, keyNo]
    omega
theorem valV_mem {kvs : List (List Key × V)} {k : List Key} {v : V} (e : valV kvs k = some v) : (k, v) ∈ kvs := by
  unfold valV at e
  cases q : kvs.find? fun kv => decide (kv.1 = k) with
  | none => rw [q] at e; cases e
  | some p =>
    rw [q] at e
    have e' : p.2 = v := Option.some.inj e
    have h1 := List.find?_some q
    have h2 := List.mem_of_find?_eq_some q
    have h3 : p.1 = k := by simpa using h1
    rw [← h3, ← e']; exact h2
theorem MemOk.get {c : Nat} {fs : List P} {kvs : List (List Key × V)} {i j : Int} {v : V} (m : MemOk T K M H c fs kvs) (e : valV kvs [.inl i, .inl j] = some v) : Rp T K M H (T.memo c fs i j) v := by
  obtain ⟨i', j', e1, _, _, _, _, r⟩ := m.ok _ (valV_mem e)
  cases e1
  exact r
theorem MemOk.put {c : Nat} {fs : List P} {kvs : List (List Key × V)} {i j : Int} {v : V} (m : MemOk T K M H c fs kvs) (hi : 0 ≤ i ∧ i < 64) (hj : 0 ≤ j ∧ j < 64) (r : Rp T K M H (T.memo c fs i j) v) : MemOk T K M H c fs (putK kvs [.inl i, .inl j] v) := by
  by_cases q : valV kvs [.inl i, .inl j] = none
  · rw [putK_new v q]
    refine ⟨?_, fun kv hk => ?_⟩
    · rw [List.map_append]
      refine List.nodup_append.mpr ⟨m.nd, by simp, fun a ha b hb e => ?_⟩
      have e2 : b = [.inl i, .inl j] := by simpa using hb
      subst e
      rw [e2] at ha
      obtain ⟨p, hp, ep⟩ := List.mem_map.mp ha
      have z : (kvs.any fun kv => decide (kv.1 = [.inl i, .inl j])) = true := List.any_eq_true.mpr ⟨p, hp, decide_eq_true ep⟩
      rw [valV_any, q] at z
      cases z
    · rcases List.mem_append.mp hk with z | z
      · exact m.ok kv z
      · have e : kv = ([.inl i, .inl j], v) := by simpa using z
        rw [e]
        exact ⟨i, j, rfl, hi.1, hi.2, hj.1, hj.2, r⟩
  · have a : (kvs.any fun kv => decide (kv.1 = [.inl i, .inl j])) = true := by
      rw [valV_any]
      cases z : valV kvs [Sum.inl i, Sum.inl j] with
      | none => exact absurd z q
      | some _ => rfl
    unfold putK
    rw [if_pos a]
    refine ⟨?_, fun kv hk => ?_⟩
    · rw [List.map_map]
      have e : ((fun kv : List Key × V => kv.1) ∘ fun kv => if kv.1 = [Sum.inl i, Sum.inl j] then (kv.1, v) else kv) = fun kv => kv.1 := by
        funext kv
        simp only [Function.comp]
        split <;> rfl
      rw [e]; exact m.nd
    · obtain ⟨p, hp, e⟩ := List.mem_map.mp hk
      by_cases hq : p.1 = [.inl i, .inl j]
      · rw [if_pos hq] at e
        subst e
        exact ⟨i, j, hq, hi.1, hi.2, hj.1, hj.2, r⟩
      · rw [if_neg hq] at e
        subst e
        exact m.ok _ hp
/-- something is kept -/
theorem HR.keepM (hr : HR T K M H h) {w : Addr} {c : Nat} {fs : List P} {kvs : List (List Key × V)} (hm : (w, c, fs) ∈ M.mm) (ok : MemOk T K M H c fs kvs) : HR T K M (L2.upd H w (.dT kvs)) h ∧ Ext M H M (L2.upd H w (.dT kvs)) := by
  have hw : w ∈ M.no := M.subM _ hm
  have hch : w ∈ M.ch := Trk.inM hm
  have nt : ∀ (n : Nat) (a : Addr) (p : P), M.tk[n]? = some a → h[n]? = some p → a ≠ w := fun n a p e1 e2 z => by
    obtain ⟨k2, q, _⟩ := hr.mem _ hm
    have q : H w = some (.dT k2) := q
    cases hr.at' n a p e1 e2 with
    | lst y _ => rw [z, q] at y; cases y
    | ins y _ _ => rw [z, q] at y; cases y
  refine ⟨⟨hr.len, hr.nd, fun a ha => pos_upd (hr.pos a ha), fun n a p e1 e2 => (hr.at' n a p e1 e2).barred hw (nt n a p e1 e2), fun m hm' => ?_⟩, ⟨⟨[], by simp⟩, fun _ h => h, fun a h1 h2 => absurd h1 h2, fun a o e n => by rw [upd_ne (fun z => n (by rw [z]; exact hch))]; exact e, fun _ h => live_upd h, fun _ h => h, fun _ h => .inl h⟩⟩
  by_cases e : m.1 = w
  · have e2 := M.inj m hm' _ hm e
    subst e2
    exact ⟨kvs, upd_same, ok.barred hw⟩
  · obtain ⟨k2, q, o2⟩ := hr.mem m hm'
    exact ⟨k2, by rw [upd_ne e]; exact q, o2.barred hw⟩
/-- a new one -/
abbrev Trk.memo (M : Trk) (w c : Nat) (fs : List P) (hw : w ∈ M.no) (hc : w ∉ M.ch) : Trk := ⟨M.tk, (w, c, fs) :: M.mm, M.no, fun a h => by
  rcases List.mem_append.mp h with z | z
  · exact M.subT a z
  · rcases List.mem_cons.mp z with y | y
    · rw [y]; exact hw
    · exact M.sub a (List.mem_append_right _ y), fun m h m' h' e => by
  rcases List.mem_cons.mp h with z | z
  · rcases List.mem_cons.mp h' with y | y
    · rw [z, y]
    · exact absurd (by rw [z] at e; have := Trk.inM y; rw [← e] at this; exact this) hc
  · rcases List.mem_cons.mp h' with y | y
    · exact absurd (by rw [y] at e; have := Trk.inM z; rw [e] at this; exact this) hc
    · exact M.inj m z m' y e⟩
theorem Ext.memo {w c : Nat} {fs : List P} (e : Ext M H M' H') (hn : H w = none) (hw : w ∈ M'.no) (hc : w ∉ M'.ch) : Ext M H (M'.memo w c fs hw hc) H' :=
  ⟨e.pre, e.nos, e.new, e.keep, e.live, fun m h => List.mem_cons_of_mem _ (e.mms m h), fun m h => (List.mem_cons.mp h).elim (fun z => .inr (by rw [z]; exact hn)) (e.mnew m)⟩
theorem HR.memoNew (hr : HR T K M H h) {w c : Nat} {fs : List P} (hw : w ∈ M.no) (hc : w ∉ M.ch) (hn : H w = some (.dT [])) : HR T K (M.memo w c fs hw hc) H h := by
  refine ⟨hr.len, hr.nd, hr.pos, fun n a p e1 e2 => (hr.at' n a p e1 e2).less (fun _ h => h) fun m h => List.mem_cons_of_mem _ h, fun m hm => ?_⟩
  rcases List.mem_cons.mp hm with z | z
  · subst z
    exact ⟨[], hn, List.nodup_nil, fun kv h => by cases h⟩
  · obtain ⟨kvs, q, o⟩ := hr.mem m z
    exact ⟨kvs, q, o.less (fun _ h => h) fun m h => List.mem_cons_of_mem _ h⟩
end
section
variable {T : Tb} {X : Cx} {W : WX} {k : Nat}
/-! ### o.f = {}: kept for later -/
def kFldM (c i : Nat) (S : Sl) (o : Vl) (h1 : Hs) : RS := match o with
  | .ref n => match h1[n]? with
    | some (.ins c' fs) => if c' = c ∧ i = fs.length then some (.ok .nx, S, h1.set n (.ins c (fs ++ [.mem c fs]))) else none
    | _ => none
  | _ => none
def sFldM (c i : Nat) (mo : ME) : MS := fun S h => bndS (mo S h) S (kFldM c i S)
theorem sim_setFldM (c i : Nat) {o : Expr} {f : Str} {mo : ME} {pos pos' pos2 : Pos} (Z : ClsF T X.K c) (hi : (T.nms c)[i]? = some f) (ho : SimE T X W o mo) (hs : swapsWith (.Dict [] [] pos2) (some (.Attribute o f pos')) pos.line X.env = pure false := by rfl) :
    SimS T X W (.Assign [.Attribute o f pos'] (.Dict [] [] pos2) pos) (sFldM c i mo) := by
  refine PS.weak (ps_fld ho pe_dnewT hs) fun D σ H ⟨S, M, h, sr, hr, p⟩ => fun w hw => ?_
  have nw : w ∉ M.no := hr.none_out hw
  refine ⟨S, M.bar w, h, sr.ext (.bar hw), hr.bar hw, ?_⟩
  unfold sFldM at p
  match e : mo S h, p with
  | none, p => exact p.elim
  | some (.error cc, h'), p => exact fun M1 H1 e1 hr1 => p M1 H1 σ ((Ext.bar hw).trans e1) hr1 ((sr.ext (.bar hw)).ext e1)
  | some (.ok v, h'), p =>
    intro M1 H1 x e1 hr1 r1
    have bw : w ∈ M1.no := e1.nos w (List.mem_append_right _ (by simp))
    have cw0 : w ∉ (M.bar w).ch := fun z => nw (M.sub w z)
    have hw0 : L2.upd H w (.dT []) w = some (.dT []) := upd_same
    have cw : w ∉ M1.ch := e1.outT hw0 cw0
    have hw1 : H1 w = some (.dT []) := e1.keep w _ hw0 cw0
    have eT : Ext M H M1 H1 := (Ext.bar hw).trans e1
    have p : postS T X.K W M H D (kFldM c i S v h') := p
    unfold kFldM at p
    split at p
    · rename_i n
      cases r1 with
      | ref ea =>
        rename_i a
        obtain ⟨q, hq, cc⟩ := hr1.got ea
        rw [hq] at p
        cases cc with
        | lst _ _ => exact p.elim
        | ins z nm ra =>
          rename_i dx c' fs gs
          dsimp only at p
          split at p
          · rename_i hcc
            obtain ⟨hc1, hl⟩ := hcc
            subst hc1
            have hlen : gs.length = fs.length := by simpa using ra.length.symm
            have hmem := List.mem_of_getElem? hi
            have hlim : gs.length < 1000 := by
              have h1 : (gs.map (·.1)).length = gs.length := List.length_map ..
              rw [nm, List.length_take] at h1
              have := Z.ln
              omega
            have hn : f ∉ gs.map (·.1) := fun zz => by
              rw [nm] at zz
              obtain ⟨j, hj⟩ := List.getElem?_of_mem zz
              have hjl : j < fs.length := by
                have := (List.getElem?_eq_some_iff.mp hj).1
                rw [List.length_take] at this; omega
              rw [List.getElem?_take_of_lt hjl] at hj
              obtain ⟨u1, q1⟩ := List.getElem?_eq_some_iff.mp hj
              obtain ⟨u2, q2⟩ := List.getElem?_eq_some_iff.mp hi
              have := (List.getElem_inj Z.nd).mp (q1.trans q2.symm)
              omega
            refine ⟨a, _, dx, gs, rfl, z, Z.cl, Z.no f hmem, hlim, ?_⟩
            rw [putF_new hn]
            let M3 := M1.memo w c' fs bw cw
            have hr3 : HR T X.K M3 H1 h' := hr1.memoNew bw cw hw1
            have e3 : Ext M H M3 H1 := eT.memo hw bw cw
            have ta : a ∈ M3.tk := (List.mem_of_getElem? ea : a ∈ M1.tk)
            have hb : a ∈ M3.no := M3.subT a ta
            have ew : Ext M3 H1 M3 (L2.upd H1 a (.ins (T.cls c') dx (gs ++ [(f, V.ref w)]))) := .write ta
            have sr3 : SR T X.K M3 H1 S σ := sr.ext e3
            refine p M3 _ σ (e3.trans ew) (hr3.write (M := M3) ea (.ins upd_same ?_ ?_)) (sr3.ext ew)
            · rw [List.map_append, nm, List.length_append]
              show _ = List.take (fs.length + 1) (T.nms c')
              rw [List.take_add_one, show (T.nms c')[fs.length]? = some f by rw [← hl]; exact hi]; rfl
            · rw [List.map_append]
              have ra3 : RpA T X.K M3 H1 fs (gs.map (·.2)) := RpA.less (M := M1) (M' := M3) (fun _ h => h) (fun m h => List.mem_cons_of_mem _ h) ra
              exact RpA.append (ra3.barred hb) (.cons ((Rp.mem (List.mem_cons_self)).barred hb) .nil)
          · exact p.elim
    · exact p.elim
theorem pvN (i : Nat) {x : Str} {pos : Pos} (hN : X.N[i]? = some x := by rfl) (hv : Vis X.env.scope x := by first | exact Or.inl rfl | exact Or.inr (Or.inl rfl) | exact Or.inr (Or.inr rfl)) (hd : (x == ("__debug__" : Str)) = false := by decide)
    (hcd : (x == ("__classdict__" : Str)) = false := by decide) : PE X (.Name x pos) (tVar i) := pe_var hN hv hd hcd
/-! ### if (i, j) not in o.f: o.f[i, j] = e; return o.f[i, j] -/
def sameW (fs fs0 : List P) : Bool := match (fs[0]? : Option P), (fs0[0]? : Option P) with
  | some (.tup a), some (.tup b) => match tupsI a, tupsI b with
    | some x, some y => decide (x = y)
    | _, _ => false
  | _, _ => false
theorem sameW_eq {fs fs0 : List P} (h : sameW fs fs0 = true) : ∃ a, fs[0]? = some (.tup a) ∧ fs0[0]? = some (.tup a) := by
  unfold sameW at h
  split at h
  · rename_i a b e1 e2
    split at h
    · rename_i x y e3 e4
      have e5 := of_decide_eq_true h
      subst e5
      rw [tupsI_eq e3] at e1
      rw [tupsI_eq e4] at e2
      exact ⟨_, e1, e2⟩
    · cases h
  · cases h
def sMemo (c w oi ki ji : Nat) (me : ME) : MS := fun S h => match S[oi]?, S[ki]?, S[ji]? with
  | some (some (.p (.ins c' fs))), some (some (.p (.int i))), some (some (.p (.int j))) => if c' = c ∧ 0 ≤ i ∧ i < 64 ∧ 0 ≤ j ∧ j < 64 then (match fs[w]? with
      | some (.mem _ fs0) => if sameW fs fs0 = true then bndS (me S h) S fun v h1 => some (.ok (.rt v), S, h1) else none
      | _ => none) else none
  | _, _, _ => none
/-- what me gives is what is kept -/
def MemoOf (T : Tb) (c w oi ki ji : Nat) (me : ME) : Prop := ∀ (S : Sl) (h : Hs) (c' : Nat) (fs : List P) (i j : Int) (c2 : Nat) (fs0 : List P), S[oi]? = some (some (.p (.ins c' fs))) → S[ki]? = some (some (.p (.int i))) → S[ji]? = some (some (.p (.int j))) → fs[w]? = some (.mem c2 fs0) → (∃ a, fs[0]? = some (.tup a) ∧ fs0[0]? = some (.tup a)) → c' = c → ∀ r h', me S h = some (r, h') → r = .ok (.p (T.memo c2 fs0 i j)) ∧ h' = h
theorem sr_ins {S : Sl} {σ : L2.St} {M : Trk} {H : Hp} {oi w c : Nat} {f : Str} {fs : List P} {c2 : Nat} {fs0 : List P} (Z : ClsF T X.K c) (hi : (T.nms c)[w]? = some f) (sr : SR T X.K M H S σ) (ho : S[oi]? = some (some (.p (.ins c fs)))) (hf : fs[w]? = some (.mem c2 fs0)) :
    ∃ ao o b, H ao = some o ∧ ao ∉ M.no ∧ (b, c2, fs0) ∈ M.mm ∧ ∀ (H2 : Hp) (Q : VK), H2 ao = some o → Q (.ref b) H2 → tFld X.K (tVar oi) f σ H2 Q := by
  obtain ⟨x, ex, rx⟩ := sr.at' oi _ ho
  cases rx with
  | p rx =>
    cases rx with
    | ins z n nm ra =>
      rename_i a dx gs
      obtain ⟨y, hy, ry⟩ := ra.get hf
      have hn : (gs.map (·.1))[w]? = some f := by
        rw [nm, List.getElem?_take_of_lt (List.getElem?_eq_some_iff.mp hf).1]; exact hi
      cases ry with
      | mem hm =>
        rename_i b
        exact ⟨a, _, b, z, n, hm, fun H2 Q z2 q => ⟨_, ex, a, _, dx, gs, .ref b, rfl, z2, Z.cl, Z.no f (List.mem_of_getElem? hi), lookup_nth (by rw [nm]; exact nodup_take Z.nd _) hn hy, q⟩⟩
theorem sims_memo (c w oi ki ji : Nat) {f : Str} {e o1 o2 o3 a1 a2 a3 b1 b2 b3 : Expr} {me : ME} {p1 p2 p3 q1 q2 q3 r1 r2 r3 s1 s2 s3 : Pos} {k1 k2 k3 : Nat} (hr : Room k X.A) (hc : X.calm = true) (Z : ClsF T X.K c) (hi : (T.nms c)[w]? = some f)
    (ho1 : PE X o1 (tVar oi)) (ho2 : PE X o2 (tVar oi)) (ho3 : PE X o3 (tVar oi)) (ha1 : PE X a1 (tVar ki)) (ha2 : PE X a2 (tVar ki)) (ha3 : PE X a3 (tVar ki)) (hb1 : PE X b1 (tVar ji)) (hb2 : PE X b2 (tVar ji)) (hb3 : PE X b3 (tVar ji))
    (he : SimE T X W e me) (hme : MemoOf T c w oi ki ji me)
    (z1 : starEach [a1, b1] X.env = (false, eval a1 X.env) :: starEach [b1] X.env := by rfl) (y1 : starEach [b1] X.env = (false, eval b1 X.env) :: starEach [] X.env := by rfl)
    (z2 : starEach [a2, b2] X.env = (false, eval a2 X.env) :: starEach [b2] X.env := by rfl) (y2 : starEach [b2] X.env = (false, eval b2 X.env) :: starEach [] X.env := by rfl)
    (z3 : starEach [a3, b3] X.env = (false, eval a3 X.env) :: starEach [b3] X.env := by rfl) (y3 : starEach [b3] X.env = (false, eval b3 X.env) :: starEach [] X.env := by rfl)
    (w1 : attributeBase o1 f X.env (eval o1 X.env) = eval o1 X.env := by rfl) (w2 : attributeBase o2 f X.env (eval o2 X.env) = eval o2 X.env := by rfl) (w3 : attributeBase o3 f X.env (eval o3 X.env) = eval o3 X.env := by rfl)
    (hs : swapsWith e (some (.Subscript (.Attribute o2 f q2) (.Tuple [a2, b2] k2 p2) r2)) s2.line X.env = pure false := by rfl) :
    SimSs T X W [.If (.Compare (.Tuple [a1, b1] k1 p1) [.NotIn] [.Attribute o1 f q1] r1) [.Assign [.Subscript (.Attribute o2 f q2) (.Tuple [a2, b2] k2 p2) r2] e s2] [] s1, .Return (some (.Subscript (.Attribute o3 f q3) (.Tuple [a3, b3] k3 p3) r3)) s3] (sMemo c w oi ki ji me) := by
  have hu : X.A.units + 1 < cLine := hu_of hr.r
  refine PSs.weak (pss_cons (ps_if (pt_cmp (pc_dnotin hu (pe_tup (pa_cons ha1 (pa_cons hb1 pa_nil y1) z1)) (pe_fld ho1 w1))) (pss_one (ps_dput hu (pe_fld ho2 w2) (pe_tup (pa_cons ha2 (pa_cons hb2 pa_nil y2) z2)) he hs)) pss_nil)
    (pss_one (ps_ret (pe_dget hu (pe_fld ho3 w3) (pe_tup (pa_cons ha3 (pa_cons hb3 pa_nil y3) z3)) (fun _ _ => rfl))))) fun D σ H ⟨S, M, h, sr, hR, p⟩ => ?_
  unfold sMemo at p
  split at p
  · rename_i c' fs i j eo ek ej
    split at p
    · rename_i hcc
      obtain ⟨hc1, hi0, hi1, hj0, hj1⟩ := hcc
      subst hc1
      split at p
      · rename_i c2 fs0 ef
        split at p
        case isFalse => exact p.elim
        rename_i hsw
        have keyI : ∀ {M' : Trk} {H' : Hp}, SR T X.K M' H' S σ → σ[ki]? = some (some (.int i)) ∧ σ[ji]? = some (some (.int j)) := fun {M' H'} sr => by
          obtain ⟨x, ex, rx⟩ := sr.at' ki _ ek
          obtain ⟨y, ey, ry⟩ := sr.at' ji _ ej
          cases rx with | p rx => cases rx; cases ry with | p ry => cases ry; exact ⟨ex, ey⟩
        obtain ⟨sk, sj⟩ := keyI sr
        have two : (2 : Nat) ≤ sizeLine := by decide
        -- what me gives
        cases em : me S h with
        | none => rw [em] at p; exact p.elim
        | some rh =>
          obtain ⟨r, h'⟩ := rh
          rw [em] at p
          obtain ⟨er, eh⟩ := hme S h c' fs i j c2 fs0 eo ek ej ef (sameW_eq hsw) rfl r h' em
          subst er eh
          have p : postS T X.K W M H D (some (.ok (.rt (.p (T.memo c2 fs0 i j))), S, h')) := p
          obtain ⟨ao, oo, b, hao, nao, hb, rd⟩ := sr_ins Z hi sr eo ef
          -- the end: it is kept
          have fin : ∀ M2 H2, Ext M H M2 H2 → HR T X.K M2 H2 h' → (∀ kvs, H2 b = some (.dT kvs) → ∃ v, valV kvs [.inl i, .inl j] = some v) →
              tDGet (tFld X.K (tVar oi) f) (tTup (tCons (tVar ki) (tCons (tVar ji) tNil))) σ H2 D.rt := fun M2 H2 e2 hr2 got => by
            refine rd H2 _ (e2.kept hao nao) ⟨_, sk, _, sj, two, fun q hq => ?_⟩
            obtain ⟨kvs, hk, ok⟩ := hr2.mem _ (e2.mms _ hb)
            have hk : H2 b = some (.dT kvs) := hk
            obtain ⟨v, hv⟩ := got kvs hk
            have hq1 : L2.upd H2 q (.tup [V.int i, V.int j]) b = some (.dT kvs) := by rw [upd_ne (ne_of_none hk hq)]; exact hk
            refine ⟨b, v, rfl, by rw [← hv]; exact DGet.t (k := [.inl i, .inl j]) hq1 upd_same, ?_⟩
            exact p M2 _ v (e2.trans (.fresh hq)) (hr2.fresh hq) (.p ((ok.get hv).ext (.fresh hq)))
          refine ⟨_, sk, _, sj, two, fun q hq => ?_⟩
          have eq1 : Ext M H M (L2.upd H q (.tup [V.int i, V.int j])) := .fresh hq
          have hR1 := hR.fresh (o := .tup [V.int i, V.int j]) hq
          have sr1 := sr.ext eq1
          obtain ⟨kvs, hk, ok⟩ := hR1.mem _ hb
          have hk : L2.upd H q (.tup [V.int i, V.int j]) b = some (.dT kvs) := hk
          refine rd _ _ (eq1.kept hao nao) ⟨b, _, rfl, DGet.t (k := [.inl i, .inl j]) hk upd_same, ?_⟩
          cases hv : valV kvs [.inl i, .inl j] with
          | some v =>
            refine ⟨false, rfl, ?_⟩
            refine fin M _ eq1 hR1 fun kvs' hk' => ?_
            rw [hk] at hk'
            cases hk'
            exact ⟨v, hv⟩
          | none =>
            refine ⟨true, rfl, ?_⟩
            refine ⟨S, M, h', sr1, hR1, ?_⟩
            rw [em]
            intro M3 H3 x e3 hr3 r3
            have e03 := eq1.trans e3
            refine rd _ _ (e03.kept hao nao) ⟨_, sk, _, sj, two, fun q2 hq2 => ?_⟩
            have e4 : Ext M3 H3 M3 (L2.upd H3 q2 (.tup [V.int i, V.int j])) := .fresh hq2
            have hr4 := hr3.fresh (o := .tup [V.int i, V.int j]) hq2
            obtain ⟨kvs2, hk2, ok2⟩ := hr4.mem _ (e03.mms _ hb)
            have hk2 : L2.upd H3 q2 (.tup [V.int i, V.int j]) b = some (.dT kvs2) := hk2
            have lt : kvs2.length < sizeLine := by
              have := ok2.few
              exact lt_line (by omega)
            refine ⟨b, _, rfl, DPut.t (k := [.inl i, .inl j]) hk2 upd_same lt, ?_⟩
            have r4 : Rp T X.K M3 (L2.upd H3 q2 (.tup [V.int i, V.int j])) (T.memo c2 fs0 i j) x := by
              cases r3 with | p r3 => exact r3.ext e4
            have ok3 := ok2.put ⟨hi0, hi1⟩ ⟨hj0, hj1⟩ r4
            obtain ⟨hr5, e5⟩ := hr4.keepM (e03.mms _ hb) ok3
            refine fin M3 _ ((e03.trans e4).trans e5) hr5 fun kvs' hk' => ?_
            rw [upd_same] at hk'
            cases hk'
            exact ⟨x, by rw [valV_put]; simp⟩
      · exact p.elim
    · exact p.elim
  · exact p.elim
end
end EV
end T33
section T34
set_option Elab.async false
set_option linter.all false
set_option maxRecDepth 100000
set_option maxHeartbeats 1000000
namespace EV
open PySem PySem.Spec PyProof.Rows L2
section
variable {M : Model} {A : Around} {E : Value → Shared → Prop}
/-- a walk over a written list, turn by turn -/
theorem wp_walk {α β : Type} {f : α → β → Sem (ForInStep β)} {Q : β → Shared → Prop} (J : Nat → β → Shared → Prop) : ∀ (l : List α) (i : Nat) (b : β) (s : Shared),
    (∀ j x b s, l[j]? = some x → J (i + j) b s → wpAny M A (f x b) (fun r s' => ∃ b', r = .yield b' ∧ J (i + j + 1) b' s') E s) → (∀ b s, J (i + l.length) b s → Q b s) → J i b s → wpAny M A (forIn l b f) Q E s
  | [], i, b, s, _, he, h => by
    rw [List.forIn_nil]
    exact wpAny_pure (he b s h)
  | x :: l, i, b, s, hs, he, h => by
    rw [List.forIn_cons]
    refine wpAny_bind (wpAny_mono (hs 0 x b s rfl h) (fun r s' hr => ?_) fun _ _ z => z)
    obtain ⟨b', rfl, h'⟩ := hr
    refine wp_walk J l (i + 1) b' s' (fun j y c t hy hc => ?_) (fun c t hc => he c t ?_) h'
    · have := hs (j + 1) y c t (by simpa using hy) (by rw [show i + (j + 1) = i + 1 + j by omega]; exact hc)
      rw [show i + (j + 1) + 1 = i + 1 + j + 1 by omega] at this
      exact this
    · rw [List.length_cons, show i + (l.length + 1) = i + 1 + l.length by omega]; exact hc
end
section
variable {prog : Program} {w : World} {A : Around} {E : Value → Shared → Prop} {s : Shared}
/-- the iterators of tuples, laid one behind the other -/
def laidIts (h : Heap) : List Addr → Heap
  | [] => h
  | t :: ts => laidIts (h.push { cls := .type "tuple_iterator", data := .fields #[.ref t, .int 0 0] }) ts
theorem laidIts_snoc (t : Addr) : ∀ (ts : List Addr) (h : Heap), laidIts h (ts ++ [t]) = (laidIts h ts).push { cls := .type "tuple_iterator", data := .fields #[.ref t, .int 0 0] }
  | [], h => rfl
  | u :: ts, h => laidIts_snoc t ts _
theorem laidIts_size : ∀ (ts : List Addr) (h : Heap), (laidIts h ts).objs.size = h.objs.size + ts.length
  | [], h => rfl
  | t :: ts, h => by
    show (laidIts (h.push _) ts).objs.size = _
    rw [laidIts_size ts, Heap.size_push, List.length_cons]; omega
theorem laidIts_old : ∀ (ts : List Addr) (h : Heap) {b : Addr} {o : Obj}, h.get? b = some o → (laidIts h ts).get? b = some o
  | [], h, _, _, e => e
  | t :: ts, h, _, _, e => laidIts_old ts _ (Heap.get?_push_of_some _ e)
theorem laidIts_at : ∀ (ts : List Addr) (h : Heap) {j : Nat} {t : Addr}, ts[j]? = some t → (laidIts h ts).get? (h.objs.size + j) = some { cls := .type "tuple_iterator", data := .fields #[.ref t, .int 0 0] }
  | u :: ts, h, 0, t, e => by
    have e : u = t := by simpa using e
    subst e
    exact laidIts_old ts _ (Heap.get?_push_size _ rfl)
  | u :: ts, h, j + 1, t, e => by
    have := laidIts_at ts (h.push { cls := .type "tuple_iterator", data := .fields #[.ref u, .int 0 0] }) (j := j) (t := t) (by simpa using e)
    rw [Heap.size_push] at this
    rw [show h.objs.size + (j + 1) = h.objs.size + 1 + j by omega]
    exact this
def itsAt (n k : Nat) : List Value := (List.range k).map fun j => Value.ref (n + j)
theorem itsAt_succ (n k : Nat) : itsAt n (k + 1) = itsAt n k ++ [Value.ref (n + k)] := by simp [itsAt, List.range_succ]
theorem iter_all {ts : List Addr} {Q : List Value → Shared → Prop} (ht : ∀ t ∈ ts, ∃ items, s.heap.IsTuple t items) (h : Q (itsAt s.heap.objs.size ts.length) { s with heap := laidIts s.heap ts }) :
    wpAny (model prog w) A (Builtin.SmallTypes.iterAll (ts.map Value.ref)) Q E s := by
  unfold Builtin.SmallTypes.iterAll
  refine wpAny_bind ?_
  refine wp_walk (fun i (b : Array Value) s' => i ≤ ts.length ∧ b.toList = itsAt s.heap.objs.size i ∧ s' = { s with heap := laidIts s.heap (ts.take i) }) _ 0 _ _ (fun j x b s' hx hj => ?_) (fun b s' hb => ?_) ⟨Nat.zero_le _, rfl, rfl⟩
  · obtain ⟨h1, h2, rfl⟩ := hj
    rw [List.getElem?_map] at hx
    cases hx0 : ts[j]? with
    | none => rw [hx0] at hx; cases hx
    | some t =>
      rw [hx0] at hx
      cases hx
      rw [Nat.zero_add] at h1 h2 ⊢
      have hjl := (List.getElem?_eq_some_iff.mp hx0).1
      obtain ⟨items, hi⟩ := ht t (List.mem_of_getElem? hx0)
      have hi' : Heap.IsTuple (laidIts s.heap (ts.take j)) t items := by
        obtain ⟨o, ho, r⟩ := hi
        exact ⟨o, laidIts_old _ _ ho, r⟩
      refine wpAny_bind (wpAny_holding (wpAny_pyIter_tuple hi' (wpAny_pure ⟨_, rfl, hjl, ?_, ?_⟩)))
      · rw [Array.toList_push, h2, itsAt_succ]
        show _ ++ [Value.ref (laidIts s.heap (ts.take j)).objs.size] = _
        rw [laidIts_size, List.length_take, Nat.min_eq_left (Nat.le_of_lt hjl)]
      · rw [List.take_add_one, hx0]
        show _ = { s with heap := laidIts s.heap (ts.take j ++ [t]) }
        rw [laidIts_snoc]
  · obtain ⟨_, h2, rfl⟩ := hb
    rw [Nat.zero_add, List.length_map] at h2
    refine wpAny_pure ?_
    rw [h2, Nat.zero_add, List.length_map, List.take_length]
    exact h
/-! ### zip(*ts) of one to five tuples -/
theorem five {α : Type} {P : List α → Prop} (h1 : ∀ a, P [a]) (h2 : ∀ a b, P [a, b]) (h3 : ∀ a b c, P [a, b, c]) (h4 : ∀ a b c d, P [a, b, c, d]) (h5 : ∀ a b c d e, P [a, b, c, d, e]) : ∀ l : List α, 1 ≤ l.length → l.length ≤ 5 → P l
  | [], h, _ => absurd h (Nat.not_succ_le_zero 0)
  | [a], _, _ => h1 a
  | [a, b], _, _ => h2 a b
  | [a, b, c], _, _ => h3 a b c
  | [a, b, c, d], _, _ => h4 a b c d
  | [a, b, c, d, e], _, _ => h5 a b c d e
  | _ :: _ :: _ :: _ :: _ :: _ :: r, _, h => absurd h (by simp only [List.length_cons]; omega)
theorem typeCallZ (us : List Value) (h1 : 1 ≤ us.length) (h2 : us.length ≤ 5) : checkTypeCall "zip" ⟨us, []⟩ = pure () :=
  five (P := fun us => checkTypeCall "zip" ⟨us, []⟩ = pure ()) (fun _ => by kernel_rfl) (fun _ _ => by kernel_rfl) (fun _ _ _ => by kernel_rfl) (fun _ _ _ _ => by kernel_rfl) (fun _ _ _ _ _ => by kernel_rfl) us h1 h2
theorem newCallZ (us : List Value) (h1 : 1 ≤ us.length) (h2 : us.length ≤ 5) : checkBuiltinCall "zip.__new__" ⟨.type "zip" :: us, []⟩ = pure () :=
  five (P := fun us => checkBuiltinCall "zip.__new__" ⟨.type "zip" :: us, []⟩ = pure ()) (fun _ => by kernel_rfl) (fun _ _ => by kernel_rfl) (fun _ _ _ => by kernel_rfl) (fun _ _ _ _ => by kernel_rfl) (fun _ _ _ _ _ => by kernel_rfl) us h1 h2
theorem initZ (o : Value) (us : List Value) (h1 : 1 ≤ us.length) (h2 : us.length ≤ 5) : argsOk "object.__init__" ⟨o :: us, []⟩ := by
  have sg := signature?_of (id := "object.__init__") (n := ['_', '_', 't', 'i', 'n', 'i', '_', '_']) (o := ['t', 'c', 'e', 'j', 'b', 'o']) (by kernel_rfl) PySem.F.owner_object
  revert h1 h2
  refine five (P := fun us => argsOk "object.__init__" ⟨o :: us, []⟩) (fun _ => ?_) (fun _ _ => ?_) (fun _ _ _ => ?_) (fun _ _ _ _ => ?_) (fun _ _ _ _ _ => ?_) us <;> (unfold argsOk; rw [sg]; kernel_rfl)
abbrev ZipO (f0 f1 : Value) (TI TO : Addr) : Obj := { cls := .type "zip", dict := none, data := .fields #[f0, f1, .bool false, .ref TI, .ref TO], slots := #[] }
abbrev SeqO (vs : Array Value) : Obj := { cls := .type "tuple", data := .seq vs }
def zipMade (h : Heap) (ts : List Addr) : Heap :=
  (((laidIts h ts).push (SeqO (itsAt h.objs.size ts.length).toArray)).push (SeqO (List.replicate ts.length Value.none).toArray)).push (ZipO .none (.bool false) (h.objs.size + ts.length) (h.objs.size + ts.length + 1))
theorem meetsZ (ts : List Addr) (hl : ts.length ≤ 5) : Meets (Builtin.«zip.__new__» ⟨.type "zip" :: ts.map Value.ref, []⟩) (fun _ R s => (∀ t ∈ ts, ∃ items, s.heap.IsTuple t items) ∧
    R (.ok (.ret (.ref (s.heap.objs.size + ts.length + 2)))) { s with heap := zipMade s.heap ts }) :=
  .of_wp fun prog w A R s h => by
    obtain ⟨ht, hR⟩ := h
    unfold Builtin.«zip.__new__»
    have hc : wpAny (model prog w) A.in1 (Builtin.SmallTypes.newClass "zip" { pos := Value.type "zip" :: List.map Value.ref ts }) (fun r s' => r = (Value.type "zip", ts.map Value.ref) ∧ s' = s) (fun _ _ => False) s := by
      have hsub := sub_zip
      unfold Builtin.SmallTypes.newClass
      refine wpAny_bind (wpAny_of_eq (a := true) (by rfl) ?_)
      show wpAny _ _ (isSubtype (.type "zip") (.type "zip") >>= _) _ _ s
      refine wpAny_bind (wpAny_of_eq hsub ?_)
      exact wpAny_pure ⟨rfl, rfl⟩
    refine wpAny_bind (wpAny_mono hc (fun r s' hr => ?_) fun _ _ z => z.elim)
    obtain ⟨rfl, rfl⟩ := hr
    show wpAny _ _ (Builtin.SmallTypes.iterAll (ts.map Value.ref) >>= _) _ _ _
    refine wpAny_bind (iter_all ht ?_)
    have hlen : (itsAt s'.heap.objs.size ts.length).length = ts.length := by simp [itsAt]
    refine wpAny_bind (wpAny_newTuple ?_ (by rw [hlen]; exact le_line (by omega)))
    refine wpAny_bind (wpAny_newTuple ?_ (by rw [List.length_map, hlen]; exact le_line (by omega)))
    unfold Builtin.SmallTypes.newRecord
    refine wpAny_bind (wpAny_newObj_type ?_ (show (5 : Nat) ≤ sizeLine + 2 by decide))
    refine wpAny_pure ⟨_, rfl, ?_⟩
    have e1 : (laidIts s'.heap ts).objs.size = s'.heap.objs.size + ts.length := laidIts_size ts _
    have e2 : List.map (fun _ => Value.none) (itsAt s'.heap.objs.size ts.length) = List.replicate ts.length Value.none := by
      rw [List.map_const', hlen]
    unfold zipMade at hR
    simp only [Heap.size_push, e1, e2] at hR ⊢
    exact hR
theorem zipMade_zip (h : Heap) (ts : List Addr) : (zipMade h ts).get? (h.objs.size + ts.length + 2) = some (ZipO .none (.bool false) (h.objs.size + ts.length) (h.objs.size + ts.length + 1)) := by
  have e : (((laidIts h ts).push (SeqO (itsAt h.objs.size ts.length).toArray)).push (SeqO (List.replicate ts.length Value.none).toArray)).objs.size = h.objs.size + ts.length + 2 := by simp only [Heap.size_push, laidIts_size]
  rw [← e]
  exact Heap.get?_push_size _ rfl
theorem newZ {ts : List Addr} {Q : Value → Shared → Prop} (h1 : 1 ≤ ts.length) (h2 : ts.length ≤ 5) (ht : ∀ t ∈ ts, ∃ items, s.heap.IsTuple t items) (h : Q (.ref (s.heap.objs.size + ts.length + 2)) { s with heap := zipMade s.heap ts }) :
    wpAny (model prog w) A (call (.type "zip") (ts.map Value.ref)) Q E s := by
  have l1 : 1 ≤ (ts.map Value.ref).length := by rw [List.length_map]; exact h1
  have l2 : (ts.map Value.ref).length ≤ 5 := by rw [List.length_map]; exact h2
  refine callType_new PySem.F.called_zip (by decide) (typeCallZ _ l1 l2) (newCallZ _ l1 l2) (fun obj => initZ obj _ l1 l2) PySem.F.entry_zip_new (meetsZ ts h2) ⟨ht, ?_⟩
  exact ⟨⟨_, zipMade_zip s.heap ts, rfl⟩, h⟩
/-- where such a walk stands -/
structure ZSt (z TI TO : Addr) (its ts : List Addr) (i : Nat) (h : Heap) : Prop where
  zip : ∃ f0 f1, h.get? z = some (ZipO f0 f1 TI TO) ∧ (f0 = .none ∨ ∃ a : Nat, f0 = rawInt a)
  ti : h.get? TI = some (SeqO (its.map Value.ref).toArray)
  to : ∃ vs : Array Value, vs.size = its.length ∧ h.get? TO = some (SeqO vs)
  it : ∀ (j : Nat) (a t : Addr), its[j]? = some a → ts[j]? = some t → h.IsTupleIter a t i
structure ZAp (z TI TO : Addr) (its ts : List Addr) : Prop where
  len : its.length = ts.length
  nd : its.Nodup
  zi : z ∉ its
  ti : TI ∉ its
  to : TO ∉ its
  zt : z ≠ TI
  zo : z ≠ TO
  tt : TI ≠ TO
  tz : ∀ t ∈ ts, t ≠ z
  tsi : ∀ t ∈ ts, t ∉ its
  tto : ∀ t ∈ ts, t ≠ TO

/-- the next thing of one of its iterators -/
theorem drawZ {a t : Addr} {i : Nat} {items : Array Value} {x : Value} {Q : Option Value → Shared → Prop} (h1 : s.heap.IsTupleIter a t i) (h2 : s.heap.IsTuple t items) (hx : items[i]? = some x)
    (hQ : ∀ h', h'.IsTupleIter a t (i + 1) → Heap.SameBut a s.heap h' → Q (some x) { s with heap := h' }) :
    wpAny (model prog w) A (do return some (← Builtin.SmallTypes.nextOf (.ref a))) Q E s :=
  wpAny_bind (RZ.nextOf_tuple_item h1 h2 hx fun h' a1 a2 => wpAny_pure (hQ h' a1 a2))
/-- amid a turn: the first j iterators have gone on -/
structure ZMid (z TI TO : Addr) (its ts : List Addr) (i : Nat) (h0 : Heap) (g0 g1 : Value) (vs : Array Value) (j : Nat) (h : Heap) : Prop where
  zip : h.get? z = some (ZipO g0 g1 TI TO)
  ti : h.get? TI = some (SeqO (its.map Value.ref).toArray)
  to : h.get? TO = some (SeqO vs)
  it : ∀ (m : Nat) (a t : Addr), its[m]? = some a → ts[m]? = some t → h.IsTupleIter a t (if m < j then i + 1 else i)
  sz : h.objs.size = h0.objs.size
  keep : ∀ c o, c ≠ z → c ≠ TO → c ∉ its → h0.get? c = some o → h.get? c = some o
variable {z TI TO : Addr} {its ts : List Addr} {i j : Nat} {h0 h h' : Heap} {g0 g1 : Value} {vs : Array Value}
theorem ZMid.step (D : ZAp z TI TO its ts) (m : ZMid z TI TO its ts i h0 g0 g1 vs j h) {a t : Addr} (ha : its[j]? = some a) (ht : ts[j]? = some t) (st : h'.IsTupleIter a t (i + 1)) (sb : Heap.SameBut a h h') : ZMid z TI TO its ts i h0 g0 g1 vs (j + 1) h' := by
  have am : a ∈ its := List.mem_of_getElem? ha
  have up : ∀ c o, c ≠ a → h.get? c = some o → h'.get? c = some o := fun c o n e => sb.extBut _ _ n e
  refine ⟨up _ _ (fun q => D.zi (by rw [q]; exact am)) m.zip, up _ _ (fun q => D.ti (by rw [q]; exact am)) m.ti, up _ _ (fun q => D.to (by rw [q]; exact am)) m.to, fun n b u hb hu => ?_, sb.1.trans m.sz, fun c o n1 n2 n3 e => up c o (fun q => n3 (by rw [q]; exact am)) (m.keep c o n1 n2 n3 e)⟩
  by_cases e : n = j
  · subst e
    rw [ha] at hb; cases hb
    rw [ht] at hu; cases hu
    rw [if_pos (Nat.lt_succ_self _)]
    exact st
  · have nb : b ≠ a := fun q => by
      subst q
      obtain ⟨l1, q1⟩ := List.getElem?_eq_some_iff.mp hb
      obtain ⟨l2, q2⟩ := List.getElem?_eq_some_iff.mp ha
      exact e ((List.getElem_inj D.nd).mp (q1.trans q2.symm))
    have z := m.it n b u hb hu
    have ei : (if n < j + 1 then i + 1 else i) = if n < j then i + 1 else i := by
      by_cases q : n < j
      · rw [if_pos q, if_pos (by omega)]
      · rw [if_neg q, if_neg (by omega)]
    rw [ei]
    exact z.at fun o q => up b o nb q
theorem ZMid.drawn (D : ZAp z TI TO its ts) (m : ZMid z TI TO its ts i h0 g0 g1 vs j h) {t : Addr} {items : Array Value} (hm : t ∈ ts) (ht : h0.IsTuple t items) : h.IsTuple t items := by
  obtain ⟨o, ho, r⟩ := ht
  exact ⟨o, m.keep t o (D.tz t hm) (D.tto t hm) (D.tsi t hm) ho, r⟩
theorem ZMid.toWrite (D : ZAp z TI TO its ts) (m : ZMid z TI TO its ts i h0 g0 g1 vs j h) {vs' : Array Value} (e : h'.get? TO = some (SeqO vs')) (sb : Heap.SameBut TO h h') : ZMid z TI TO its ts i h0 g0 g1 vs' j h' := by
  have up : ∀ c o, c ≠ TO → h.get? c = some o → h'.get? c = some o := fun c o n q => sb.extBut _ _ n q
  exact ⟨up _ _ D.zo m.zip, up _ _ D.tt m.ti, e, fun n b u hb hu => (m.it n b u hb hu).at fun o q => up b o (fun y => D.to (by rw [← y]; exact List.mem_of_getElem? hb)) q, sb.1.trans m.sz, fun c o n1 n2 n3 q => up c o n2 (m.keep c o n1 n2 n3 q)⟩
theorem ZMid.zipWrite (D : ZAp z TI TO its ts) (m : ZMid z TI TO its ts i h0 g0 g1 vs j h) {g0' g1' : Value} (e : h'.get? z = some (ZipO g0' g1' TI TO)) (sb : Heap.SameBut z h h') : ZMid z TI TO its ts i h0 g0' g1' vs j h' := by
  have up : ∀ c o, c ≠ z → h.get? c = some o → h'.get? c = some o := fun c o n q => sb.extBut _ _ n q
  exact ⟨e, up _ _ D.zt.symm m.ti, up _ _ D.zo.symm m.to, fun n b u hb hu => (m.it n b u hb hu).at fun o q => up b o (fun y => D.zi (by rw [← y]; exact List.mem_of_getElem? hb)) q, sb.1.trans m.sz, fun c o n1 n2 n3 q => up c o n1 (m.keep c o n1 n2 n3 q)⟩
theorem ZSt.mid (S : ZSt z TI TO its ts i h) : ∃ g0 g1 vs, ZMid z TI TO its ts i h g0 g1 vs 0 h ∧ vs.size = its.length ∧ (g0 = .none ∨ ∃ a : Nat, g0 = rawInt a) := by
  obtain ⟨g0, g1, hz, hg⟩ := S.zip
  obtain ⟨vs, hv, ht⟩ := S.to
  exact ⟨g0, g1, vs, ⟨hz, S.ti, ht, fun m a t ha ht => by rw [if_neg (Nat.not_lt_zero _)]; exact S.it m a t ha ht, rfl, fun _ _ _ _ _ e => e⟩, hv, hg⟩
/-- what the iterators give at this turn -/
def ZGive (ts : List Addr) (i : Nat) (xs : List Value) (h : Heap) : Prop := xs.length = ts.length ∧ ∀ (j : Nat) (t : Addr), ts[j]? = some t → ∃ items x, h.IsTuple t items ∧ items[i]? = some x ∧ xs[j]? = some x
theorem writeZ {T : Addr} {vs : Array Value} {k : Nat} {x : Value} {Q : Unit → Shared → Prop} (hT : s.heap.get? T = some (SeqO vs)) (hs : vs.size ≤ sizeLine)
    (h : ∀ h', h'.get? T = some (SeqO (vs.setIfInBounds k x)) → Heap.SameBut T s.heap h' → Q () { s with heap := h' }) : wpAny (model prog w) A (updateSeq T (·.setIfInBounds k x)) Q E s := by
  refine wpAny_updateSeq hT rfl (h _ ?_ (Heap.SameBut.update ..)) hs (by rw [Array.size_setIfInBounds]; exact Nat.le_succ_of_le hs)
  rw [Heap.get?_update_self _ hT rfl]
  simp [Obj.mapSeq]
/-- whether the tuple that was handed out is gone -/
theorem ownZ {R : Bool → Shared → Prop} (D : ZAp z TI TO its ts) (m : ZMid z TI TO its ts i s.heap g0 g1 vs 0 s.heap) (hg : g0 = .none ∨ ∃ a : Nat, g0 = rawInt a) (r1 : R true s) (r2 : ∀ h', ZMid z TI TO its ts i s.heap g0 (.bool true) vs 0 h' → R false { s with heap := h' }) :
    wpAny (model prog w) A (Builtin.SmallTypes.ownedTupleIsFree (.ref z)) R E s := by
  unfold Builtin.SmallTypes.ownedTupleIsFree
  refine wpAny_bind (wpAny_field m.zip rfl (x := g0) rfl ?_)
  rcases hg with rfl | ⟨a, rfl⟩
  · exact wpAny_pure r1
  · show wpAny _ _ (loadIfAlive a >>= _) _ _ s
    refine wpAny_bind ?_
    have alive : ∀ {R2 : Option Obj → Shared → Prop}, R2 (s.heap.get? a) s → wpAny (model prog w) A (loadIfAlive a) R2 E s := fun h => fun _ _ _ => h
    refine alive ?_
    cases s.heap.get? a with
    | none => exact wpAny_pure r1
    | some ob =>
      show wpAny _ _ (field (.ref z) 1 >>= _) _ _ s
      refine wpAny_bind (wpAny_field m.zip rfl (x := g1) rfl ?_)
      by_cases q : (g1 != Value.bool true) = true
      · show wpAny _ _ (if (g1 != Value.bool true) = true then _ else _) _ _ s
        rw [if_pos q]
        refine wpAny_bind (wpAny_setField_rec m.zip (by simp) fun h' hz' hs' => wpAny_pure (r2 h' (m.zipWrite D hz' hs')))
      · show wpAny _ _ (if (g1 != Value.bool true) = true then _ else _) _ _ s
        rw [if_neg q]
        have e : g1 = .bool true := by
          have q' : (g1 == Value.bool true) = true := by
            cases y : (g1 == Value.bool true) with
            | true => rfl
            | false => exact absurd (by simp [bne, y]) q
          exact beq_iff_eq.mp q'
        refine wpAny_pure (r2 s.heap (by rw [← e]; exact m))
theorem zipItem {xs : List Value} {Q : Value → Shared → Prop} (D : ZAp z TI TO its ts) (S : ZSt z TI TO its ts i s.heap) (h1 : 1 ≤ ts.length) (h5 : ts.length ≤ 5) (hx : ZGive ts i xs s.heap)
    (hQ : ∀ h', ZSt z TI TO its ts (i + 1) h' → h'.get? s.heap.objs.size = some (SeqO xs.toArray) → (∀ c o, c ≠ z → c ≠ TO → c ∉ its → s.heap.get? c = some o → h'.get? c = some o) → Q (.ref s.heap.objs.size) { s with heap := h' }) :
    wpAny (model prog w) A (Builtin.«zip.__next__» ⟨[.ref z], []⟩) (fun fin s' => ∃ v, fin = .done (.ret v) ∧ Q v s') E s := by
  obtain ⟨g0, g1, vs, m, hvs, hg⟩ := S.mid
  obtain ⟨hl, hx⟩ := hx
  show wpAny _ _ (field (.ref z) 2 >>= _) _ _ _
  refine wpAny_bind (wpAny_field m.zip rfl (x := .bool false) rfl ?_)
  show wpAny _ _ (field (.ref z) 3 >>= _) _ _ _
  refine wpAny_bind (wpAny_field m.zip rfl (x := .ref TI) rfl ?_)
  refine wpAny_bind (wpAny_seqItems m.ti rfl ?_)
  have hne : ¬ ((its.map Value.ref).toArray.isEmpty = true) := by
    have := D.len
    cases its with
    | nil => simp at this; omega
    | cons _ _ => simp
  show wpAny _ _ (if (its.map Value.ref).toArray.isEmpty = true then _ else _) _ _ _
  rw [if_neg hne]
  show wpAny _ _ (Builtin.SmallTypes.ownedTupleIsFree (.ref z) >>= _) _ _ _
  refine wpAny_bind (ownZ D m hg ?_ ?_)
  · -- it is gone: the zip's own tuple is filled again
    show wpAny _ _ (rule _ >>= _) _ _ s
    refine wpAny_bind (wpAny_rule ?_)
    refine wpAny_bind (wpAny_field m.zip rfl (x := .ref TO) rfl ?_)
    refine wpAny_bind (wpAny_setField_rec m.zip (by simp) fun h1 hz1 hs1 => ?_)
    have m1 : ZMid z TI TO its ts i s.heap .ellipsis g1 vs 0 h1 := m.zipWrite D hz1 hs1
    refine wpAny_bind ?_
    refine wp_walk (fun j b s' => b = (none, ()) ∧ j ≤ its.length ∧ ∃ vs' h', s' = { s with heap := h' } ∧ ZMid z TI TO its ts i s.heap .ellipsis g1 vs' j h' ∧ vs'.size = its.length ∧ ∀ n, n < j → vs'[n]? = xs[n]?) _ 0 _ _ (fun j x b s' hj hb => ?_) (fun b s' hb => ?_) ⟨rfl, Nat.zero_le _, vs, h1, rfl, m1, hvs, fun n hn => absurd hn (Nat.not_lt_zero n)⟩
    · obtain ⟨rfl, hle, vs', h', rfl, m', hv', hp⟩ := hb
      rw [Nat.zero_add] at m' hp hle
      rw [List.getElem?_zipIdx, Nat.zero_add] at hj
      have hj : Option.map (fun a => (a, j)) (List.map Value.ref its)[j]? = some x := hj
      rw [List.getElem?_map] at hj
      cases ea : its[j]? with
      | none => rw [ea] at hj; cases hj
      | some a =>
        rw [ea] at hj
        cases hj
        have jl : j < its.length := (List.getElem?_eq_some_iff.mp ea).1
        obtain ⟨t, et⟩ : ∃ t, ts[j]? = some t := ⟨_, List.getElem?_eq_getElem (by rw [← D.len]; exact jl)⟩
        obtain ⟨items, x, q1, q2, q3⟩ := hx j _ et
        have st : h'.IsTupleIter a t i := by
          have := m'.it j a _ ea et
          rw [if_neg (Nat.lt_irrefl _)] at this
          exact this
        refine wpAny_bind (wpAny_onRaise (drawZ st (m'.drawn D (List.mem_of_getElem? et) q1) q2 fun h2 st2 sb2 => ?_))
        have m2 := m'.step D ea et st2 sb2
        refine wpAny_bind (wpAny_seqItems m2.to rfl ?_)
        refine wpAny_bind (writeZ m2.to (by rw [hv', D.len]; exact le_line (by omega)) fun h3 e3 sb3 => ?_)
        have m3 := m2.toWrite D e3 sb3
        refine wpAny_bind (wpAny_letGo (wpAny_pure ⟨_, rfl, rfl, ?_, vs'.setIfInBounds j x, h3, rfl, ?_, ?_, fun n hn => ?_⟩))
        · rw [Nat.zero_add]; exact jl
        · rw [Nat.zero_add]; exact m3
        · rw [Array.size_setIfInBounds]; exact hv'
        · rw [Array.getElem?_setIfInBounds]
          by_cases e : j = n
          · subst e
            rw [if_pos rfl, if_pos (by rw [hv']; exact jl), q3]
          · rw [if_neg e]
            exact hp n (by omega)
    · obtain ⟨rfl, _, vs', h', rfl, m', hv', hp⟩ := hb
      have ll : (its.map Value.ref).toArray.toList.zipIdx.length = its.length := by simp
      rw [ll, Nat.zero_add] at m' hp
      have ev : vs'.toList = xs := by
        refine List.ext_getElem? fun n => ?_
        by_cases hn : n < its.length
        · rw [Array.getElem?_toList]; exact hp n hn
        · rw [List.getElem?_eq_none (by rw [Array.length_toList, hv']; omega), List.getElem?_eq_none (by rw [hl, ← D.len]; omega)]
      show wpAny _ _ (seqItems? (Value.ref TO) >>= _) _ _ _
      refine wpAny_bind (wpAny_seqItems m'.to rfl ?_)
      have fits : vs'.toList.length ≤ sizeLine := by rw [ev, hl]; exact le_line (by omega)
      refine wpAny_bind (wpAny_newTuple ?_ fits)
      show wpAny _ _ (Builtin.SmallTypes.ownedTupleHandOut (.ref z) (.ref h'.objs.size) >>= _) _ _ _
      refine wpAny_bind ?_
      unfold Builtin.SmallTypes.ownedTupleHandOut
      have zlt : z < h'.objs.size := Heap.lt_size m'.zip
      have hz3 : (h'.push { cls := .type "tuple", data := .seq vs'.toList.toArray }).get? z = some (ZipO .ellipsis g1 TI TO) := Heap.get?_push_of_some _ m'.zip
      refine wpAny_bind (wpAny_setField_rec hz3 (by simp) fun h4 hz4 hs4 => ?_)
      have hz4 : h4.get? z = some (ZipO (rawInt h'.objs.size) g1 TI TO) := hz4
      refine wpAny_setField_rec hz4 (by simp) fun h5 hz5 hs5 => ?_
      have hz5 : h5.get? z = some (ZipO (rawInt h'.objs.size) (.bool false) TI TO) := hz5
      have up : ∀ c o, c ≠ z → h'.get? c = some o → h5.get? c = some o := fun c o n e => hs5.extBut _ _ n (hs4.extBut _ _ n (Heap.get?_push_of_some _ e))
      have at' : h5.get? h'.objs.size = some (SeqO xs.toArray) := hs5.extBut _ _ (Nat.ne_of_gt zlt) (hs4.extBut _ _ (Nat.ne_of_gt zlt) (by rw [ev]; exact Heap.get?_push_size _ rfl))
      refine wpAny_pure ⟨_, rfl, ?_⟩
      rw [m'.sz] at at' ⊢
      refine hQ h5 ⟨⟨_, _, hz5, .inr ⟨_, rfl⟩⟩, up _ _ D.zt.symm m'.ti, ⟨vs', hv', up _ _ D.zo.symm m'.to⟩, fun n b u hb hu => ?_⟩ at' fun c o n1 n2 n3 e => up c o n1 (m'.keep c o n1 n2 n3 e)
      have nl : n < its.length := (List.getElem?_eq_some_iff.mp hb).1
      have st := m'.it n b u hb hu
      rw [if_pos nl] at st
      exact st.at fun o q => up b o (fun y => D.zi (by rw [← y]; exact List.mem_of_getElem? hb)) q
  · intro h' m'
    show wpAny _ _ (forIn (its.map Value.ref).toArray _ _ >>= _) _ _ _
    rw [List.forIn_toArray]
    refine wpAny_bind ?_
    refine wp_walk (fun j b s' => ∃ arr : Array Value, b = (none, arr) ∧ arr.toList = xs.take j ∧ j ≤ its.length ∧ ∃ h', s' = { s with heap := h' } ∧ ZMid z TI TO its ts i s.heap g0 (.bool true) vs j h') _ 0 _ _ (fun j x b s' hj hb => ?_) (fun b s' hb => ?_) ⟨#[], rfl, rfl, Nat.zero_le _, h', rfl, m'⟩
    · obtain ⟨arr, rfl, ha, hle, h2, rfl, m2⟩ := hb
      rw [Nat.zero_add] at m2 ha hle
      rw [List.getElem?_map] at hj
      cases ea : its[j]? with
      | none => rw [ea] at hj; cases hj
      | some a =>
        rw [ea] at hj
        cases hj
        have jl : j < its.length := (List.getElem?_eq_some_iff.mp ea).1
        obtain ⟨t, et⟩ : ∃ t, ts[j]? = some t := ⟨_, List.getElem?_eq_getElem (by rw [← D.len]; exact jl)⟩
        obtain ⟨items, x, q1, q2, q3⟩ := hx j _ et
        have st : h2.IsTupleIter a t i := by
          have := m2.it j a _ ea et
          rw [if_neg (Nat.lt_irrefl _)] at this
          exact this
        refine wpAny_bind (wpAny_holding (drawZ st (m2.drawn D (List.mem_of_getElem? et) q1) q2 fun h3 st3 sb3 => ?_))
        refine wpAny_pure ⟨_, rfl, arr.push x, rfl, ?_, ?_, h3, rfl, ?_⟩
        · rw [Array.toList_push, ha, Nat.zero_add, List.take_add_one, q3]; rfl
        · rw [Nat.zero_add]; exact jl
        · rw [Nat.zero_add]; exact m2.step D ea et st3 sb3
    · obtain ⟨arr, rfl, ha, _, h2, rfl, m2⟩ := hb
      rw [List.length_map, Nat.zero_add] at ha m2
      have ev : arr.toList = xs := by rw [ha, D.len, ← hl, List.take_length]
      show wpAny _ _ (newTuple arr.toList >>= _) _ _ _
      refine wpAny_bind (wpAny_newTuple ?_ (by rw [ev, hl]; exact le_line (by omega)))
      have up : ∀ c o, h2.get? c = some o → (h2.push { cls := .type "tuple", data := .seq arr.toList.toArray }).get? c = some o := fun c o e => Heap.get?_push_of_some _ e
      have at' : (h2.push { cls := .type "tuple", data := .seq arr.toList.toArray }).get? h2.objs.size = some (SeqO xs.toArray) := by rw [ev]; exact Heap.get?_push_size _ rfl
      refine wpAny_pure ⟨_, rfl, ?_⟩
      show Q (.ref h2.objs.size) _
      rw [m2.sz] at at' ⊢
      refine hQ _ ⟨⟨_, _, up _ _ m2.zip, hg⟩, up _ _ m2.ti, ⟨vs, hvs, up _ _ m2.to⟩, fun n b u hb hu => ?_⟩ at' fun c o n1 n2 n3 e => up c o (m2.keep c o n1 n2 n3 e)
      have nl : n < its.length := (List.getElem?_eq_some_iff.mp hb).1
      have st := m2.it n b u hb hu
      rw [if_pos nl] at st
      exact st.at fun o q => up b o q
theorem zipEnd {a0 t0 : Addr} {items : Array Value} {Q : Fin → Shared → Prop} (hh : A.handled = none) (D : ZAp z TI TO its ts) (S : ZSt z TI TO its ts i s.heap) (ha : its[0]? = some a0) (ht : ts[0]? = some t0) (q1 : s.heap.IsTuple t0 items) (q2 : items[i]? = none)
    (hE : ∀ h' e, (∀ c o, c ≠ z → c ≠ TO → c ∉ its → s.heap.get? c = some o → h'.get? c = some o) → (∃ o, h'.get? e = some o ∧ o.cls = .type "StopIteration") → E (.ref e) { s with heap := h' }) :
    wpAny (model prog w) A (Builtin.«zip.__next__» ⟨[.ref z], []⟩) Q E s := by
  obtain ⟨g0, g1, vs, m, hvs, hg⟩ := S.mid
  obtain ⟨r, er⟩ : ∃ r, its = a0 :: r := by
    cases its with
    | nil => simp at ha
    | cons b r => exact ⟨r, by simpa using ha⟩
  show wpAny _ _ (field (.ref z) 2 >>= _) _ _ _
  refine wpAny_bind (wpAny_field m.zip rfl (x := .bool false) rfl ?_)
  show wpAny _ _ (field (.ref z) 3 >>= _) _ _ _
  refine wpAny_bind (wpAny_field m.zip rfl (x := .ref TI) rfl ?_)
  refine wpAny_bind (wpAny_seqItems m.ti rfl ?_)
  have hne : ¬ ((its.map Value.ref).toArray.isEmpty = true) := by rw [er]; simp
  show wpAny _ _ (if (its.map Value.ref).toArray.isEmpty = true then _ else _) _ _ _
  rw [if_neg hne]
  show wpAny _ _ (Builtin.SmallTypes.ownedTupleIsFree (.ref z) >>= _) _ _ _
  have am : a0 ∈ its := List.mem_of_getElem? ha
  have tm : t0 ∈ ts := List.mem_of_getElem? ht
  have st0 : ∀ {g0 g1 : Value} {h' : Heap}, ZMid z TI TO its ts i s.heap g0 g1 vs 0 h' → h'.IsTupleIter a0 t0 i := fun m' => by
    have := m'.it 0 a0 t0 ha ht
    rw [if_neg (Nat.lt_irrefl _)] at this
    exact this
  have za : z ≠ a0 := fun q => D.zi (by rw [q]; exact am)
  refine wpAny_bind (ownZ D m hg ?_ ?_)
  · show wpAny _ _ (rule _ >>= _) _ _ s
    refine wpAny_bind (wpAny_rule ?_)
    refine wpAny_bind (wpAny_field m.zip rfl (x := .ref TO) rfl ?_)
    refine wpAny_bind (wpAny_setField_rec m.zip (by simp) fun h1 hz1 hs1 => ?_)
    have m1 : ZMid z TI TO its ts i s.heap .ellipsis g1 vs 0 h1 := m.zipWrite D hz1 hs1
    refine wpAny_bind ?_
    have el : (its.map Value.ref).toArray.toList.zipIdx = (Value.ref a0, 0) :: (r.map Value.ref).zipIdx 1 := by rw [er]; simp
    rw [el, List.forIn_cons]
    refine wpAny_bind (wpAny_bind (wpAny_onRaise ?_))
    show wpAny _ _ (Builtin.SmallTypes.nextOf (.ref a0) >>= _) _ _ _
    refine wpAny_bind (RZ.nextOf_tuple_end hh (st0 m1) (m1.drawn D tm q1) q2 fun h2 e hs2 he => ?_)
    obtain ⟨oe, hoe, hce⟩ := he
    have hz2 : h2.get? z = some (ZipO .ellipsis g1 TI TO) := hs2 _ _ za m1.zip
    have hez : e ≠ z := fun x => by
      rw [x, hz2] at hoe
      cases hoe
      simp at hce
    exact wpAny_setField_rec hz2 (by simp) fun h3 _ hs3 => hE h3 e (fun c o c1 c2 c3 x => hs3.extBut _ _ c1 (hs2 _ _ (fun y => c3 (by rw [y]; exact am)) (m1.keep c o c1 c2 c3 x))) ⟨oe, hs3.extBut _ _ hez hoe, hce⟩
  · intro h' m'
    show wpAny _ _ (forIn (its.map Value.ref).toArray _ _ >>= _) _ _ _
    rw [List.forIn_toArray]
    refine wpAny_bind ?_
    have el : its.map Value.ref = Value.ref a0 :: r.map Value.ref := by rw [er]; rfl
    rw [el, List.forIn_cons]
    refine wpAny_bind (wpAny_bind (wpAny_holding ?_))
    show wpAny _ _ (Builtin.SmallTypes.nextOf (.ref a0) >>= _) _ _ _
    refine wpAny_bind (RZ.nextOf_tuple_end hh (st0 m') (m'.drawn D tm q1) q2 fun h2 e hs2 he => ?_)
    exact hE h2 e (fun c o c1 c2 c3 x => hs2 _ _ (fun y => c3 (by rw [y]; exact am)) (m'.keep c o c1 c2 c3 x)) he
theorem nextZ {xs : List Value} {Q : Option Value → Shared → Prop} (D : ZAp z TI TO its ts) (S : ZSt z TI TO its ts i s.heap) (h1 : 1 ≤ ts.length) (h5 : ts.length ≤ 5) (hx : ZGive ts i xs s.heap)
    (hQ : ∀ h', ZSt z TI TO its ts (i + 1) h' → h'.get? s.heap.objs.size = some (SeqO xs.toArray) → (∀ c o, c ≠ z → c ≠ TO → c ∉ its → s.heap.get? c = some o → h'.get? c = some o) → Q (some (.ref s.heap.objs.size)) { s with heap := h' }) :
    wpAny (model prog w) A (pyNext (.ref z)) Q E s := by
  obtain ⟨f0, f1, hz, _⟩ := S.zip
  have hT : s.TypeIs (.ref z) "zip" := ⟨_, hz, rfl⟩
  unfold pyNext
  exact wpAny_bind (wpAny_attempt (wpAny_callSpecial?_slot (name := Str.ofString "__next__") hT PySem.F.slot_zip_next
    (wpAny_call_entry PySem.F.slot_zip_next hT PySem.F.entry_zip_next (zipItem D S h1 h5 hx fun h' a1 a2 a3 => wpAny_pure (hQ h' a1 a2 a3)) (PySem.F.args_zip_next_1 _))))
theorem nextZend {a0 t0 : Addr} {items : Array Value} {Q : Option Value → Shared → Prop} (hh : A.handled = none) (D : ZAp z TI TO its ts) (S : ZSt z TI TO its ts i s.heap) (ha : its[0]? = some a0) (ht : ts[0]? = some t0) (q1 : s.heap.IsTuple t0 items) (q2 : items[i]? = none)
    (hQ : ∀ h', (∀ c o, c ≠ z → c ≠ TO → c ∉ its → s.heap.get? c = some o → h'.get? c = some o) → Q none { s with heap := h' }) : wpAny (model prog w) A (pyNext (.ref z)) Q E s := by
  obtain ⟨f0, f1, hz, _⟩ := S.zip
  have hT : s.TypeIs (.ref z) "zip" := ⟨_, hz, rfl⟩
  unfold pyNext
  refine wpAny_bind (wpAny_attempt (wpAny_callSpecial?_slot (name := Str.ofString "__next__") hT PySem.F.slot_zip_next
    (wpAny_call_entry PySem.F.slot_zip_next hT PySem.F.entry_zip_next (zipEnd hh D S ha ht q1 q2 fun h' e hk he => ?_) (PySem.F.args_zip_next_1 _))))
  obtain ⟨o, ho, hc⟩ := he
  exact wpAny_bind (wpAny_isInstance (T := "StopIteration") (b := true) ⟨o, ho, hc⟩ isSubtype_stop (wpAny_pure (hQ _ hk)))
theorem iterZ {Q : Value → Shared → Prop} (S : ZSt z TI TO its ts i s.heap) (h : Q (.ref z) s) : wpAny (model prog w) A (pyIter (.ref z)) Q E s := by
  obtain ⟨f0, f1, hz, _⟩ := S.zip
  have hT : s.TypeIs (.ref z) "zip" := ⟨_, hz, rfl⟩
  refine wpAny_pyIter_slot hT PySem.F.slot_zip_iter (wpAny_call_entry PySem.F.slot_zip_iter hT PySem.F.entry_zip_iter ?_ (PySem.F.args_zip_iter_1 _))
  show wpAny _ _ (PySem.ret (.ref z)) _ _ s
  exact wpAny_pure ⟨_, rfl, "zip", _, hT, PySem.F.slot_zip_next.lookup, h⟩
end
end EV
end T34
section T35
set_option Elab.async false
set_option linter.all false
set_option maxRecDepth 100000
set_option maxHeartbeats 1000000
namespace EV
open PySem PySem.Spec PyProof.Rows L2
/-- a column -/
def colV (rows : List (List V)) (i : Nat) : List V := rows.filterMap fun r => r[i]?
/-- tuples of one length, walked column by column -/
def ItZ (K : PySem.W.Frag) (ts : List Addr) (rows : List (List V)) (n : Nat) : It :=
  ⟨fun i H => i < n ∧ ∀ (j : Nat) (t : Addr) (row : List V), ts[j]? = some t → rows[j]? = some row → SqT K H t row,
    fun i H x H' => ∃ T, x = .ref T ∧ H T = none ∧ H' = upd H T (.tup (colV rows i)),
    fun i H => n ≤ i ∧ ∀ (j : Nat) (t : Addr) (row : List V), ts[j]? = some t → rows[j]? = some row → SqT K H t row⟩
section
variable {X : Cx} {pins : List (Addr × Obj)} {σ : L2.St} {H : Hp} {s : Shared}
theorem give (I : Inv X pins σ H s) (i n : Nat) (hi : i < n) : ∀ (ts : List Addr) (rows : List (List V)), ts.length = rows.length → (∀ r ∈ rows, r.length = n) → (∀ (j : Nat) (t : Addr) (row : List V), ts[j]? = some t → rows[j]? = some row → SqT X.K H t row) →
    ∃ xs, Vals (colV rows i) xs ∧ xs.length = ts.length ∧ ∀ (j : Nat) (t : Addr), ts[j]? = some t → ∃ items x, s.heap.IsTuple t items ∧ items[i]? = some x ∧ xs[j]? = some x
  | [], [], _, _, _ => ⟨[], .nil, rfl, fun j t h => by simp at h⟩
  | t :: ts, row :: rows, hl, hn, hs => by
    obtain ⟨xs, h1, h2, h3⟩ := give I i n hi ts rows (by simpa using hl) (fun r hr => hn r (List.mem_cons_of_mem _ hr)) fun j u r a b => hs (j + 1) u r (by simpa using a) (by simpa using b)
    obtain ⟨its, rv, p, _⟩ := I.tuple (hs 0 t row rfl rfl)
    have hrow : i < row.length := by rw [hn row List.mem_cons_self]; exact hi
    obtain ⟨x, hx, rx⟩ := rv.get (List.getElem?_eq_getElem hrow)
    refine ⟨x :: xs, ?_, by simp [h2], fun j u hu => ?_⟩
    · show Vals (List.filterMap (fun r => r[i]?) (row :: rows)) _
      rw [List.filterMap_cons, List.getElem?_eq_getElem hrow]
      exact .cons rx h1
    · cases j with
      | zero =>
        have hu : t = u := by simpa using hu
        subst hu
        exact ⟨its.toArray, x, p, by simpa using hx, rfl⟩
      | succ j =>
        obtain ⟨it, y, a, b, c⟩ := h3 j u (by simpa using hu)
        exact ⟨it, y, a, b, by simpa using c⟩
end
theorem turnZ {P : Program} {w : World} {K : PySem.W.Frag} {tg : Expr} {z TI TO : Addr} {its ts : List Addr} {rows : List (List V)} {n : Nat} (D : ZAp z TI TO its ts) (h1 : 1 ≤ ts.length) (h5 : ts.length ≤ 5) (hl : ts.length = rows.length) (hn : ∀ r ∈ rows, r.length = n)
    (htg : ∀ (u v : Value), letOwnedTupleGo tg u v = pure ()) : Turn P w K tg (ItZ K ts rows n) (z :: TI :: TO :: its) z (fun i h => ZSt z TI TO its ts i h) where
  mem := by simp
  obj := fun i h st c hc => by
    obtain ⟨f0, f1, hz, _⟩ := st.zip
    obtain ⟨vs, _, ht⟩ := st.to
    rcases List.mem_cons.mp hc with q | hc
    · rw [q]; exact ⟨_, hz, fun v q => nomatch q⟩
    · rcases List.mem_cons.mp hc with q | hc
      · rw [q]; exact ⟨_, st.ti, fun v q => nomatch q⟩
      · rcases List.mem_cons.mp hc with q | hc
        · rw [q]; exact ⟨_, ht, fun v q => nomatch q⟩
        · obtain ⟨j, hj⟩ := List.getElem?_of_mem hc
          obtain ⟨t, et⟩ : ∃ t, ts[j]? = some t := ⟨_, List.getElem?_eq_getElem (by rw [← D.len]; exact (List.getElem?_eq_some_iff.mp hj).1)⟩
          obtain ⟨o, e, _, d⟩ := st.it j c t hj et
          exact ⟨o, e, fun v q => by rw [d] at q; cases q⟩
  keep := fun i h h' st k => by
    obtain ⟨f0, f1, hz, hg⟩ := st.zip
    obtain ⟨vs, hv, ht⟩ := st.to
    exact ⟨⟨f0, f1, k z (by simp) _ hz, hg⟩, k TI (by simp) _ st.ti, ⟨vs, hv, k TO (by simp) _ ht⟩, fun j a t ha ht => (st.it j a t ha ht).at fun o q => k a (by simp [List.mem_of_getElem? ha]) o q⟩
  item := by
    intro X hP hw hK hc i pins s σ H E I hf st hg
    subst hP hw hK
    obtain ⟨hi, hs⟩ := hg
    obtain ⟨xs, rx, lx, gx⟩ := give I i n hi ts rows hl hn hs
    have lens : (colV rows i).length ≤ 5 := Nat.le_trans (List.length_filterMap_le _ _) (by rw [← hl]; exact h5)
    have lt : ∀ c ∈ z :: TI :: TO :: its, c < s.heap.objs.size := fun c hc => by
      obtain ⟨f0, f1, hz, _⟩ := st.zip
      obtain ⟨vs, _, ht⟩ := st.to
      rcases List.mem_cons.mp hc with q | hc
      · rw [q]; exact Heap.lt_size hz
      · rcases List.mem_cons.mp hc with q | hc
        · rw [q]; exact Heap.lt_size st.ti
        · rcases List.mem_cons.mp hc with q | hc
          · rw [q]; exact Heap.lt_size ht
          · obtain ⟨j, hj⟩ := List.getElem?_of_mem hc
            obtain ⟨t, et⟩ : ∃ t, ts[j]? = some t := ⟨_, List.getElem?_eq_getElem (by rw [← D.len]; exact (List.getElem?_eq_some_iff.mp hj).1)⟩
            obtain ⟨o, e, _⟩ := st.it j c t hj et
            exact Heap.lt_size e
    refine nextZ D st h1 h5 ⟨lx, gx⟩ fun h' st' at' k => ⟨_, rfl, ?_⟩
    rw [htg]
    refine wpAny_pure ?_
    have new : ObjOk X.prog X.w (upd H s.heap.objs.size (.tup (colV rows i))) h' s.heap.objs.size (.tup (colV rows i)) := ⟨le_line (by omega), xs, rx, ⟨_, at', rfl, _, rfl⟩⟩
    have I1 := I.turnedNew (t' := s.toks) (ch := z :: TI :: TO :: its) (fun c o hb q => k c o (fun y => hb (by simp [y])) (fun y => hb (by simp [y])) (fun y => hb (by simp [y])) q) hf (Nat.le_refl _) new
    refine ⟨.ref s.heap.objs.size, _, I1, rfl, ⟨_, rfl, I.hok.fresh (Nat.le_refl _), rfl⟩, st', fun c hcm => ?_⟩
    rw [upd_ne (Nat.ne_of_lt (lt c hcm))]
    exact (hf c hcm).1
  done := by
    intro X hP hw hK hc i pins s σ H E I hf st hg
    subst hP hw hK
    obtain ⟨hi, hs⟩ := hg
    obtain ⟨a0, ea⟩ : ∃ a, its[0]? = some a := ⟨_, List.getElem?_eq_getElem (by rw [D.len]; omega)⟩
    obtain ⟨t0, et⟩ : ∃ t, ts[0]? = some t := ⟨_, List.getElem?_eq_getElem (by omega)⟩
    obtain ⟨r0, er⟩ : ∃ r, rows[0]? = some r := ⟨_, List.getElem?_eq_getElem (by omega)⟩
    obtain ⟨it0, rv, p, _⟩ := I.tuple (hs 0 t0 r0 et er)
    have l0 := hn r0 (List.mem_of_getElem? er)
    have l1 := rv.length
    refine nextZend (I.ok.hd hc) D st ea et p (by simp; omega) fun h' k => ⟨rfl, I.turnedL (t' := s.toks) (ch := z :: TI :: TO :: its) (fun c o hb q => k c o (fun y => hb (by simp [y])) (fun y => hb (by simp [y])) (fun y => hb (by simp [y])) q) hf⟩
  self := fun A i s Q E st h => iterZ st h
def iZs (K : PySem.W.Frag) (te : TE) : TI := fun σ H R => te σ H fun x H1 => ∃ p ts rows n, x = .ref p ∧ (SqT K H1 p (ts.map V.ref) ∨ SqL K H1 p (ts.map V.ref)) ∧ 1 ≤ ts.length ∧ ts.length ≤ 5 ∧ ts.length = rows.length ∧ (∀ r ∈ rows, r.length = n) ∧
  (∀ (j : Nat) (t : Addr) (row : List V), ts[j]? = some t → rows[j]? = some row → SqT K H1 t row) ∧ R (ItZ K ts rows n) H1
theorem vals_refs : ∀ {ts : List Addr} {us : List Value}, Vals (ts.map V.ref) us → us = ts.map Value.ref
  | [], _, .nil => rfl
  | t :: ts, _, .cons r rr => by
    have e := vals_refs rr
    have r : _ = Value.ref t := r
    rw [r, e]; rfl
section
variable {T : Tb} {X : Cx}
theorem pi_zipS {tg e : Expr} {te : TE} {p sp pos : Pos} (hg : Gl X "zip") (hm : X.mg "zip" = none) (he : PE X e te) (htg : ∀ (u v : Value), letOwnedTupleGo tg u v = pure ()) (hs : starEach [.Starred e sp] X.env = [(true, eval e X.env)] := by rfl) :
    PI X tg (.Call (.Name "zip" p) [.Starred e sp] [] pos) (iZs X.K te) := by
  refine ⟨fun pins s σ H R I h => ?_⟩
  refine Call_ (ld_blt I hg hm PyProof.Rows.boot_zip ?_)
  rw [hs]
  refine PySem.W.ks_call (P := fun _ => True) rfl (fun _ _ => ⟨.machine, .inr (.inl rfl), .of_pure rfl⟩) (PySem.W.ks_lone (thn (he.run pins s σ H _ I h) fun u s1 ⟨x, H1, I1, rx, q⟩ => ?_))
  obtain ⟨a, ts, rows, n, ex, hq, l1, l5, ll, hn, hts, hR⟩ := q
  subst ex
  cases rx
  refine StX.star_any I1 hq fun us s2 I2 rv => ⟨trivial, ?_⟩
  rw [vals_refs rv]
  have tup : ∀ t ∈ ts, ∃ items, s2.heap.IsTuple t items := fun t ht => by
    obtain ⟨j, hj⟩ := List.getElem?_of_mem ht
    obtain ⟨row, er⟩ : ∃ r, rows[j]? = some r := ⟨_, List.getElem?_eq_getElem (by rw [← ll]; exact (List.getElem?_eq_some_iff.mp hj).1)⟩
    obtain ⟨its, _, pq, _⟩ := I2.tuple (hts j t row hj er)
    exact ⟨_, pq⟩
  have old : ∀ b o, s2.heap.get? b = some o → (zipMade s2.heap ts).get? b = some o := fun b o e => Heap.get?_push_of_some _ (Heap.get?_push_of_some _ (Heap.get?_push_of_some _ (laidIts_old ts _ e)))
  have sz : (laidIts s2.heap ts).objs.size = s2.heap.objs.size + ts.length := laidIts_size ts _
  obtain ⟨N, hN⟩ : ∃ N, N = s2.heap.objs.size := ⟨_, rfl⟩
  obtain ⟨its, hits⟩ : ∃ its, its = (List.range ts.length).map fun j => N + j := ⟨_, rfl⟩
  have itat : ∀ (j b : Nat), its[j]? = some b → b = N + j ∧ j < ts.length := fun j b hb => by
    rw [hits] at hb
    rw [List.getElem?_map] at hb
    by_cases hj : j < ts.length
    · rw [List.getElem?_range hj] at hb
      exact ⟨(Option.some.inj hb).symm, hj⟩
    · rw [List.getElem?_eq_none (by simpa using hj)] at hb; cases hb
  have inits : ∀ b : Nat, b ∈ its → N ≤ b ∧ b < N + ts.length := fun b hb => by
    obtain ⟨j, hj⟩ := List.getElem?_of_mem hb
    obtain ⟨e, l⟩ := itat j b hj
    omega
  have tlt : ∀ t : Nat, t ∈ ts → t < N := fun t ht => by
    obtain ⟨items, o, ho, _⟩ := tup t ht
    rw [hN]; exact Heap.lt_size ho
  have D : ZAp (N + ts.length + 2) (N + ts.length) (N + ts.length + 1) its ts := by
    have nd : its.Nodup := by
      rw [hits]; exact nodup_map' (fun a _ b _ e => Nat.add_left_cancel e) List.nodup_range
    have out : ∀ k : Nat, N + ts.length + k ∉ its := fun k z => by
      have := (inits _ z).2
      exact Nat.lt_irrefl _ (Nat.lt_of_le_of_lt (Nat.le_add_right _ k) this)
    have far : ∀ k t : Nat, t ∈ ts → t ≠ N + ts.length + k := fun k t ht e => by
      have h := tlt t ht
      rw [e] at h
      exact Nat.lt_irrefl _ (Nat.lt_of_le_of_lt (Nat.le_trans (Nat.le_add_right N ts.length) (Nat.le_add_right _ k)) h)
    have add : ∀ a b : Nat, a ≠ b → N + ts.length + a ≠ N + ts.length + b := fun a b h e => h (Nat.add_left_cancel e)
    exact ⟨by rw [hits]; simp, nd, out 2, out 0, out 1, add 2 0 (by decide), add 2 1 (by decide), add 0 1 (by decide), fun t ht => far 2 t ht, fun t ht z => Nat.lt_irrefl _ (Nat.lt_of_lt_of_le (tlt t ht) (inits t z).1), fun t ht => far 1 t ht⟩
  subst hN
  have S : ZSt (s2.heap.objs.size + ts.length + 2) (s2.heap.objs.size + ts.length) (s2.heap.objs.size + ts.length + 1) its ts 0 (zipMade s2.heap ts) := by
    refine ⟨⟨_, _, zipMade_zip _ _, .inl rfl⟩, ?_, ⟨(List.replicate ts.length Value.none).toArray, by rw [hits]; simp, ?_⟩, fun j a t ha ht => ?_⟩
    · have e : ((laidIts s2.heap ts).push (SeqO (itsAt s2.heap.objs.size ts.length).toArray)).get? (s2.heap.objs.size + ts.length) = some (SeqO (itsAt s2.heap.objs.size ts.length).toArray) := by
        rw [show s2.heap.objs.size + ts.length = (laidIts s2.heap ts).objs.size from sz.symm]
        exact Heap.get?_push_size _ rfl
      have e2 : its.map Value.ref = itsAt s2.heap.objs.size ts.length := by rw [hits]; simp [itsAt]
      rw [e2]
      exact Heap.get?_push_of_some _ (Heap.get?_push_of_some _ e)
    · have e : (((laidIts s2.heap ts).push (SeqO (itsAt s2.heap.objs.size ts.length).toArray)).push (SeqO (List.replicate ts.length Value.none).toArray)).get? (s2.heap.objs.size + ts.length + 1) = some (SeqO (List.replicate ts.length Value.none).toArray) := by
        rw [show s2.heap.objs.size + ts.length + 1 = ((laidIts s2.heap ts).push (SeqO (itsAt s2.heap.objs.size ts.length).toArray)).objs.size by rw [Heap.size_push, sz]]
        exact Heap.get?_push_size _ rfl
      exact Heap.get?_push_of_some _ e
    · obtain ⟨rfl, _⟩ := itat j a ha
      exact ⟨_, Heap.get?_push_of_some _ (Heap.get?_push_of_some _ (Heap.get?_push_of_some _ (laidIts_at ts s2.heap ht))), rfl, rfl⟩
  refine newZ l1 l5 tup ?_
  refine iterZ S ?_
  have I3 : Inv X pins σ H1 { s2 with heap := zipMade s2.heap ts } := I2.kept (t' := s2.toks) old
  refine ⟨s2.heap.objs.size + ts.length + 2, (s2.heap.objs.size + ts.length + 2) :: (s2.heap.objs.size + ts.length) :: (s2.heap.objs.size + ts.length + 1) :: its, _, _, H1, rfl, I3, turnZ D l1 l5 ll hn htg, S, fun c hc => ?_, hR⟩
  have hle : s2.heap.objs.size ≤ c := by
    rcases List.mem_cons.mp hc with q | hc
    · rw [q]; exact Nat.le_trans (Nat.le_add_right _ _) (Nat.le_add_right _ _)
    · rcases List.mem_cons.mp hc with q | hc
      · rw [q]; exact Nat.le_add_right _ _
      · rcases List.mem_cons.mp hc with q | hc
        · rw [q]; exact Nat.le_trans (Nat.le_add_right _ _) (Nat.le_add_right _ _)
        · exact (inits c hc).1
  have fp := I2.fpOk hle (I2.hok.fresh hle)
  exact fp
/-! ### zip(*e): the tuples of e, walked by columns -/
/-- the tuples that are there, and their one length -/
def tupsOf : List P → Option (List (List P))
  | [] => some []
  | .tup ds :: r => (tupsOf r).map (ds :: ·)
  | _ :: _ => none
def colsP (rows : List (List P)) (n : Nat) : List P := (List.range n).map fun i => P.tup (rows.filterMap fun r => r[i]?)
def zipSP (ws : List P) : Option (List P) := (tupsOf ws).bind fun rows =>
  if 1 ≤ rows.length ∧ rows.length ≤ 5 ∧ rows.all (fun r => r.length == (rows.headD []).length) then some (colsP rows (rows.headD []).length) else none
def iZipK : Vl → Hs → Rs Itd
  | .p (.tup ws), h => (zipSP ws).bind fun q => ret (.d q) h
  | .p (.lst ws), h => (zipSP ws).bind fun q => ret (.d q) h
  | _, _ => none
def iZipS (m : ME) : MI := fun S h => bnd (m S h) iZipK
/-- tuples and their rows -/
inductive RowsR (T : Tb) (K : PySem.W.Frag) (M : Trk) (H : Hp) : List Addr → List (List P) → List (List V) → Prop
  | nil : RowsR T K M H [] [] []
  | cons {t : Addr} {ts : List Addr} {ds : List P} {dss : List (List P)} {xs : List V} {xss : List (List V)} : TupM M H t xs → RpA T K M H ds xs → RowsR T K M H ts dss xss → RowsR T K M H (t :: ts) (ds :: dss) (xs :: xss)
theorem rows_of {M : Trk} {H : Hp} : ∀ {ws : List P} {vs : List V} {rows : List (List P)}, RpA T X.K M H ws vs → tupsOf ws = some rows → ∃ ts xss, vs = ts.map V.ref ∧ RowsR T X.K M H ts rows xss
  | [], _, _, .nil, e => by cases e; exact ⟨[], [], rfl, .nil⟩
  | w :: ws, _, rows, .cons rw rws, e => by
    cases w with
    | tup ds =>
      have e : (tupsOf ws).map (ds :: ·) = some rows := e
      match q : tupsOf ws with
      | none => rw [q] at e; cases e
      | some r =>
        rw [q] at e
        cases e
        obtain ⟨ts, xss, hv, hr⟩ := rows_of rws q
        cases rw with
        | tup l ra => exact ⟨_ :: ts, _ :: xss, by rw [hv]; rfl, .cons l ra hr⟩
    | _ => cases e
theorem RowsR.len {M : Trk} {H : Hp} {ts : List Addr} {dss : List (List P)} {xss : List (List V)} (r : RowsR T X.K M H ts dss xss) : ts.length = xss.length ∧ ts.length = dss.length := by
  induction r with
  | nil => exact ⟨rfl, rfl⟩
  | cons _ _ _ ih => exact ⟨by simp [ih.1], by simp [ih.2]⟩
theorem RowsR.all {M : Trk} {H : Hp} {ts : List Addr} {dss : List (List P)} {xss : List (List V)} (r : RowsR T X.K M H ts dss xss) {n : Nat} (h : ∀ d ∈ dss, d.length = n) : ∀ x ∈ xss, x.length = n := by
  induction r with
  | nil => intro x hx; cases hx
  | cons _ ra _ ih =>
    intro x hx
    rcases List.mem_cons.mp hx with e | hx
    · rw [e, ← ra.length]; exact h _ List.mem_cons_self
    · exact ih (fun d hd => h d (List.mem_cons_of_mem _ hd)) x hx
theorem RowsR.at {M M' : Trk} {H H' : Hp} {ts : List Addr} {dss : List (List P)} {xss : List (List V)} (r : RowsR T X.K M H ts dss xss) (e : ExtB M H M' H') : ∀ (j : Nat) (t : Addr) (row : List V), ts[j]? = some t → xss[j]? = some row → SqT X.K H' t row := by
  induction r with
  | nil => intro j t row h; simp at h
  | cons l ra _ ih =>
    intro j t row h h'
    cases j with
    | zero =>
      have h := Option.some.inj h
      have h' := Option.some.inj h'
      subst h h'
      exact (l.extB e).sqT
    | succ j => exact ih j t row (by simpa using h) (by simpa using h')
theorem RowsR.col {M M' : Trk} {H H' : Hp} {ts : List Addr} {dss : List (List P)} {xss : List (List V)} (r : RowsR T X.K M H ts dss xss) (e : ExtB M H M' H') {i n : Nat} (h : ∀ d ∈ dss, d.length = n) (hi : i < n) :
    RpA T X.K M' H' (dss.filterMap fun r => r[i]?) (colV xss i) := by
  induction r with
  | nil => exact .nil
  | cons l ra _ ih =>
    rename_i t ts ds dss xs xss _
    have hl := h ds List.mem_cons_self
    have hd : ds[i]? = some (ds[i]'(by omega)) := List.getElem?_eq_getElem _
    obtain ⟨x, hx, rx⟩ := ra.get hd
    have e1 : (ds :: dss).filterMap (fun r => r[i]?) = ds[i]'(by omega) :: dss.filterMap (fun r => r[i]?) := by rw [List.filterMap_cons, hd]
    have e2 : colV (xs :: xss) i = x :: colV xss i := by unfold colV; rw [List.filterMap_cons, hx]
    rw [e1, e2]
    exact .cons (rx.extB e) (ih fun d hd => h d (List.mem_cons_of_mem _ hd))
theorem zip_its {M : Trk} {H : Hp} {ws q : List P} {vs : List V} (r : RpA T X.K M H ws vs) (e : zipSP ws = some q) :
    ∃ ts xss n, vs = ts.map V.ref ∧ 1 ≤ ts.length ∧ ts.length ≤ 5 ∧ ts.length = xss.length ∧ (∀ r ∈ xss, r.length = n) ∧
      (∀ (j : Nat) (t : Addr) (row : List V), ts[j]? = some t → xss[j]? = some row → SqT X.K H t row) ∧ ItSim T X.K M H (.d q) (ItZ X.K ts xss n) := by
  unfold zipSP at e
  match q1 : tupsOf ws with
  | none => rw [q1] at e; cases e
  | some rows =>
    rw [q1] at e
    have e : (if 1 ≤ rows.length ∧ rows.length ≤ 5 ∧ rows.all (fun r => r.length == (rows.headD []).length) then some (colsP rows (rows.headD []).length) else none) = some q := e
    split at e
    · rename_i c
      obtain ⟨c1, c2, c3⟩ := c
      cases e
      obtain ⟨ts, xss, hv, hr⟩ := rows_of r q1
      obtain ⟨l1, l2⟩ := hr.len
      have all : ∀ d ∈ rows, d.length = (rows.headD []).length := fun d hd => by
        have := List.all_eq_true.mp c3 d hd
        exact eq_of_beq this
      refine ⟨ts, xss, (rows.headD []).length, hv, by rw [l2]; exact c1, by rw [l2]; exact c2, l1, hr.all all, hr.at Ext.refl.b, ItSim.of fun i M' H' e => ⟨fun d hd => ?_, fun hi => ?_⟩⟩
      · unfold colsP at hd
        rw [List.getElem?_map] at hd
        by_cases hi : i < (rows.headD []).length
        · rw [List.getElem?_range hi] at hd
          cases hd
          refine ⟨⟨hi, hr.at e⟩, fun z H'' h hr' q => ?_⟩
          obtain ⟨t, rfl, ht, rfl⟩ := q
          refine ⟨.fresh ht, hr'.fresh ht, ?_⟩
          have z := new_tup hr' ht (ds := rows.filterMap fun r => r[i]?) (xs := colV xss i) (hr.col e all hi)
          cases z with | p z => exact z
        · rw [List.getElem?_eq_none (by simpa using hi)] at hd; cases hd
      · exact ⟨by simpa [colsP] using hi, hr.at e⟩
    · cases e
theorem sim_iZipS {T : Tb} {W : WX} {e : Expr} {m : ME} {y : Str} {py p sp pos : Pos} (hm : X.mg "zip" = none) (he : SimE T X W e m) (hg : Gl X "zip" := by rfl) (hs : starEach [.Starred e sp] X.env = [(true, eval e X.env)] := by rfl) :
    SimI T X W (.Name y py) (.Call (.Name "zip" p) [.Starred e sp] [] pos) (iZipS m) := by
  refine PI.weak (pi_zipS hg hm he (fun _ _ => rfl) hs) fun σ H Q ⟨S, M, h, sr, hr, p⟩ => ⟨S, M, h, sr, hr, post.bnd (r := m S h) (k := iZipK) p fun v h1 M1 H1 x e1 hr1 r1 p1 => ?_⟩
  cases r1 with
  | ref _ => cases p1
  | p r1 =>
    cases r1 with
    | tup l ra =>
      rename_i a xs ws
      have p1 : post T X.K (ItSim T X.K) M1 H1 (erAt T W σ) Q ((zipSP ws).bind fun q => ret (.d q) h1) := p1
      match q : zipSP ws with
      | none => rw [q] at p1; cases p1
      | some q1 =>
        rw [q] at p1
        obtain ⟨ts, xss, n, hv, a1, a2, a3, a4, a5, a6⟩ := zip_its ra q
        subst hv
        exact ⟨a, ts, xss, n, rfl, .inl l.sqT, a1, a2, a3, a4, a5, post.ret p1 .refl hr1 a6⟩
    | lst l na ra =>
      rename_i a xs ws
      have p1 : post T X.K (ItSim T X.K) M1 H1 (erAt T W σ) Q ((zipSP ws).bind fun q => ret (.d q) h1) := p1
      match q : zipSP ws with
      | none => rw [q] at p1; cases p1
      | some q1 =>
        rw [q] at p1
        obtain ⟨ts, xss, n, hv, a1, a2, a3, a4, a5, a6⟩ := zip_its ra q
        subst hv
        exact ⟨a, ts, xss, n, rfl, .inr (.of l), a1, a2, a3, a4, a5, post.ret p1 .refl hr1 a6⟩
    | _ => cases p1
/-- name = [.. for .. for ..] on one line, the name a local -/
theorem sim_setLc2 {T : Tb} {W : WX} (i : Nat) {y : Str} {py : Pos} {elt tg iter tg1 iter1 : Expr} {ifs ifs1 : List Expr} {scope : Scope} (own : List (Str × Nat)) (vs1 : List Nat) {pos spos : Pos} {mi mi1 : MI} {js js1 : List Nat} {g g1 : MG} {tt tt1 : MT} {te : ME} (hc : X.calm = true) (hN : X.N.Nodup) (hi : SimI T X W tg iter mi) (ok : BlkOk X.N X.env.scope scope own)
    (hsw : swapsWith (.ListComp elt [⟨tg, iter, ifs, 0⟩, ⟨tg1, iter1, ifs1, 0⟩] scope pos) (some (.Name y py)) spos.line X.env = pure true)
    (hg : ∀ (s : Shared) (H : Hp) (C : Addr) (cl : List (Str × Addr)) (fp : List Addr), SimG T (X.blk s H scope (compEnvC scope cl C X.env) fp) tg js g)
    (ht : ∀ (s : Shared) (H : Hp) (C : Addr) (cl : List (Str × Addr)) (fp : List Addr), SimTs T (X.blk s H scope (compEnvC scope cl C X.env) fp) W0 ifs tt)
    (hi1 : ∀ (s : Shared) (H : Hp) (C : Addr) (cl : List (Str × Addr)) (fp : List Addr), SimI T (X.blk s H scope (compEnvC scope cl C X.env) fp) W0 tg1 iter1 mi1)
    (hg1 : ∀ (s : Shared) (H : Hp) (C : Addr) (cl : List (Str × Addr)) (fp : List Addr), SimG T (X.blk s H scope (compEnvC scope cl C X.env) fp) tg1 js1 g1)
    (ht1 : ∀ (s : Shared) (H : Hp) (C : Addr) (cl : List (Str × Addr)) (fp : List Addr), SimTs T (X.blk s H scope (compEnvC scope cl C X.env) fp) W0 ifs1 tt1)
    (he : ∀ (s : Shared) (H : Hp) (C : Addr) (cl : List (Str × Addr)) (fp : List Addr), SimE T (X.blk s H scope (compEnvC scope cl C X.env) fp) W0 elt te)
    (hv : ∀ j ∈ js, j ∈ own.map (·.2) := by decide) (hv1 : ∀ j ∈ js1, j ∈ vs1 := by decide) (hv2 : ∀ i ∈ vs1, i ∈ own.map (·.2) := by decide)
    (hy : X.N[i]? = some y := by rfl) (hyl : X.env.scope.names.lookup y = some .local := by rfl)
    (hs : ∀ x, foldedSetIterable iter X.env x = pure x := by intro _; rfl) (hs1 : ∀ env x, foldedSetIterable iter1 env x = pure x := by intro _ _; rfl) :
    SimS T X W (.Assign [.Name y py] (.ListComp elt [⟨tg, iter, ifs, 0⟩, ⟨tg1, iter1, ifs1, 0⟩] scope pos) spos) (sSet i (mComp2 mi g tt mi1 g1 tt1 te (own.map (·.2)) vs1)) := by
  refine PS.weak (ps_setLc2 (wi := trI T X.K W mi) (g := trG T X.K js g) (tt := trT T X.K W0 tt) (wi1 := trI T X.K W0 mi1) (g1 := trG T X.K js1 g1) (tt1 := trT T X.K W0 tt1) (te := tr T X.K W0 te) hc hN hy hyl hsw hi ok hv2 hg ht hi1 hg1 ht1 he hs hs1) fun D σ H ⟨S, M, h, sr, hr, p⟩ => ?_
  refine comp2_reads hv hv1 ⟨S, M, h, sr, hr, p.bnd sr fun v h1 M1 H1 x e1 sr1 hr1 r1 p1 => ?_⟩
  exact p1 M1 H1 _ .refl hr1 (sr1.set r1 i)
/-- what does not raise here -/
def mQ (m : ME) : ME := fun S h => quiet (m S h)
theorem sim_quiet {T : Tb} {W : WX} {e : Expr} {m : ME} (he : SimE T X W e m) : SimE T X W e (mQ m) :=
  PE.weak he fun σ H Q ⟨S, M, h, sr, hr, p⟩ => ⟨S, M, h, sr, hr, post_quiet p⟩
theorem quiet_some {α : Type} {r : Rs α} {x : Except Exn α} {h : Hs} (e : quiet r = some (x, h)) : r = some (x, h) ∧ ∃ v, x = .ok v := by
  match r, e with
  | some (.ok v, h'), e => cases e; exact ⟨rfl, _, rfl⟩
/-! ### the truth of what is no bool: of a tuple or a list, of an int, of None -/
def bTV (v : Vl) (h : Hs) : Rs Bool := match seqV v h with
  | some ds => ret (!ds.isEmpty) h
  | none => match v with
    | .p (.bl b) => ret b h
    | .p .non => ret false h
    | .p (.int i) => ret (i != 0) h
    | _ => none
def mTV (m : ME) : MT := fun S h => bnd (m S h) bTV
theorem sim_tVV {T : Tb} {W : WX} {e : Expr} {m : ME} (he : SimE T X W e m) (hi : ∀ whole, isTrue e X.env whole = (do let v ← whole; standAt e.pos; holding [v] (truthy v)) := by intro _; rfl) : SimT T X W e (mTV m) := by
  refine PT.weak (pt_truth he hi) fun σ H Q ⟨S, M, h, sr, hr, p⟩ => ⟨S, M, h, sr, hr, post.bnd (r := m S h) (k := bTV) p fun v h1 M1 H1 x e1 hr1 r1 p1 => ?_⟩
  unfold bTV at p1
  split at p1
  · rename_i ds q
    obtain ⟨a, xs, rfl, z, ra⟩ := r1.seqV hr1 q
    refine ⟨!ds.isEmpty, ?_, p1.ret .refl hr1 rfl⟩
    have e2 : (!ds.isEmpty) = !xs.isEmpty := by cases ra <;> rfl
    rcases z with z | z
    · exact .inl ⟨xs, z, e2⟩
    · exact .inr (.inl ⟨xs, z, e2⟩)
  · split at p1
    · cases r1 with | p r1 => cases r1; exact ⟨_, rfl, p1.ret .refl hr1 rfl⟩
    · cases r1 with | p r1 => cases r1; exact ⟨_, rfl, p1.ret .refl hr1 rfl⟩
    · cases r1 with | p r1 => cases r1; exact ⟨_, rfl, p1.ret .refl hr1 rfl⟩
    · exact p1.elim
end
end EV
end T35
section T36
set_option Elab.async false
set_option linter.all false
set_option maxRecDepth 100000
set_option maxHeartbeats 1000000
namespace PyProof.Rows
open PySem PySem.Builtin PySem.Builtin.List
section
variable {prog : Program} {w : World} {A : Around} {s : Shared} {E : Value → Shared → Prop}
/-- what a tuple holds, collected -/
theorem collect_tup {l : Addr} {vs : List Value} {Q : List Value → Shared → Prop} (hl : s.heap.IsTuple l vs.toArray)
    (h : Q vs { s with heap := (s.heap.push (seqObj "list" #[] 0)).update s.heap.objs.size (Obj.mapSeq (· ++ vs.toArray)) }) (hsz : vs.length ≤ sizeLine) :
    wpAny (model prog w) A (collect (.ref l)) Q E s := by
  obtain ⟨o, ho, hc, n, hd⟩ := id hl
  unfold collect
  refine wpAny_bind (wpAny_runValue (codeAny_builtin entry_proto_collect' ?_))
  show wpAny _ _ (do again (.builtin "list.__iadd__" ⟨[← newList [], .ref l], []⟩)) _ _ s
  refine wpAny_bind (wpAny_newList (wpAny_pure ⟨Code.quiet_builtin _ (by decide +kernel), codeAny_builtin entry_list_iadd' ?_⟩))
  show wpAny _ _ (Builtin.List.listExtendWith (.ref s.heap.objs.size) (.ref l) (.ref s.heap.objs.size)) _ _ { s with heap := s.heap.push (seqObj "list" #[] 0) }
  unfold Builtin.List.listExtendWith
  have ho' : (s.heap.push (seqObj "list" #[] 0)).get? l = some o := Heap.get?_push_of_some _ ho
  refine wpAny_bind (wpAny_typeOf (T := "tuple") ⟨o, ho', hc⟩ ?_)
  have ht : (Value.type "tuple" == Value.type "tuple") = true := by rfl
  rw [if_pos (by rw [ht]; simp)]
  refine wpAny_bind (listItems_at ho' hd ?_)
  refine wpAny_bind (listItems_at (xs := #[]) (n := 0) (Heap.get?_push_size _ rfl) rfl ?_)
  rw [if_neg (by simp)]
  refine wpAny_bind (listUpdate_at (xs := #[]) (n := 0) (Heap.get?_push_size _ rfl) rfl ?_ (Nat.zero_le _) (by show (#[] ++ vs.toArray).size ≤ sizeLine + 1; simp only [Array.size_append, List.size_toArray, List.length_nil]; omega))
  refine wpAny_pure ?_
  show wpAny (model prog w) A (do
      let o ← load s.heap.objs.size
      match o.data with
      | .seq xs _ => pure xs.toList
      | _ => unsupported "internal:collect") Q E { s with heap := (s.heap.push (seqObj "list" #[] 0)).update s.heap.objs.size (Obj.mapSeq (· ++ vs.toArray)) }
  refine wpAny_bind (wpAny_load (get?_update_seq (Heap.get?_push_size _ rfl) _) ?_)
  show wpAny _ _ (pure ((#[] : Array Value) ++ vs.toArray).toList) Q E _
  rw [show ((#[] : Array Value) ++ vs.toArray).toList = vs by simp]
  exact wpAny_pure h
theorem sorted_intsT {l : Addr} {vs : List Value} {ns : List Int} {Q : Value → Shared → Prop} (hl : s.heap.IsTuple l vs.toArray) (hI : IntsAre vs ns) (h64 : vs.length < 64)
    (h : ∀ (out : Array Value) (ns' : List Int), IntsAre out.toList ns' → ns'.Perm ns → ns'.Pairwise (· ≤ ·) → Q (.ref (s.heap.objs.size + 1)) { s with heap := sortedAll s.heap vs out }) :
    wpAny (model prog w) A (call (.builtin "sorted") [.ref l]) Q E s := by
  refine Calls.call_function_entry kind_sorted plain_sorted entry_sorted (args_sorted1 _) ?_
  unfold Builtin.«sorted»
  refine wpAny_bind (m := checkCount "sorted" 1 1 _) (wpAny_pure ?_)
  refine wpAny_bind (collect_tup hl ?_ (by rw [sizeLine_eq]; omega))
  refine wpAny_bind (wpAny_newList ?_ (by rw [sizeLine_eq]; omega))
  have hsz : ((s.heap.push (seqObj "list" #[] 0)).update s.heap.objs.size (Obj.mapSeq (· ++ vs.toArray))).objs.size = s.heap.objs.size + 1 := by
    rw [Heap.size_update, size_push']
  have hoL : (((s.heap.push (seqObj "list" #[] 0)).update s.heap.objs.size (Obj.mapSeq (· ++ vs.toArray))).push (seqObj "list" vs.toArray 0)).get? (s.heap.objs.size + 1) = some (seqObj "list" vs.toArray 0) := by
    rw [← hsz]; exact Heap.get?_push_size _ rfl
  show wpAny _ _ _ _ _ { s with heap := ((s.heap.push (seqObj "list" #[] 0)).update s.heap.objs.size (Obj.mapSeq (· ++ vs.toArray))).push (seqObj "list" vs.toArray 0) }
  rw [hsz]
  refine wpAny_bind (wpAny_holding (wpAny_call_entry slot_list_sort ⟨_, hoL, rfl⟩ entry_list_sort (list_sort_tree hoL hI h64 fun out ns' a1 a2 a3 => ⟨_, rfl, ?_⟩) (args_list_sort _)))
  exact wpAny_pure ⟨_, rfl, h out ns' a1 a2 a3⟩
end
end PyProof.Rows
namespace EV
open PySem PySem.Spec PyProof.Rows L2
section
variable {X : Cx}
def rSortedX (K : PySem.W.Frag) : List V → Hp → VK → Prop := fun vs H Q => ∃ (a : Addr) (ns : List Int), vs = [V.ref a] ∧ SqT K H a (ns.map V.int) ∧ ns.length < 64 ∧
  ∀ (ns' : List Int) (p : Addr), ns'.Perm ns → ns'.Pairwise (· ≤ ·) → H p = none → Q (.ref p) (upd H p (.lst (ns'.map V.int)))
theorem cr_sortedX : CallR X (.builtin "sorted") (rSortedX X.K) := by
  intro pins s σ H vs us Q I r h
  obtain ⟨a, ns, rfl, hs, h64, q⟩ := h
  obtain ⟨its, rv, hl, _⟩ := I.tuple hs
  rw [Vals.ref1 r]
  have hi := rv.ints
  refine PyProof.Rows.sorted_intsT hl hi (by rw [hi.length]; exact h64) fun out ns' h1 h2 h3 => ?_
  obtain ⟨ep, he'⟩ := PyProof.Rows.sortedAll_at s.heap its out
  have hlen : (ns'.map V.int).length ≤ sizeLine := by rw [List.length_map, h2.length_eq]; exact small64 h64
  exact ⟨.ref _, upd H (s.heap.objs.size + 1) (.lst (ns'.map V.int)), I.laid (t' := s.toks) (fun _ _ => PyProof.Rows.sortedAll_old) (Nat.le_succ _) ⟨hlen, out.toList, ep, vals_of_ints h1, he'⟩, rfl, q ns' _ h2 h3 (I.hok.fresh (Nat.le_succ _))⟩
/-! ### sorted(t) of a tuple of ints -/
def insZ (x : Int) : List Int → List Int
  | [] => [x]
  | y :: l => if x ≤ y then x :: y :: l else y :: insZ x l
def sortZ : List Int → List Int
  | [] => []
  | x :: l => insZ x (sortZ l)
theorem insZ_perm (x : Int) : ∀ l : List Int, (insZ x l).Perm (x :: l)
  | [] => .refl _
  | y :: l => by
    unfold insZ
    split
    · exact .refl _
    · exact ((insZ_perm x l).cons y).trans (List.Perm.swap x y l)
theorem sortZ_perm : ∀ l : List Int, (sortZ l).Perm l
  | [] => .refl _
  | x :: l => (insZ_perm x (sortZ l)).trans ((sortZ_perm l).cons x)
theorem insZ_pw {x : Int} : ∀ {l : List Int}, l.Pairwise (· ≤ ·) → (insZ x l).Pairwise (· ≤ ·)
  | [], _ => List.pairwise_singleton _ _
  | y :: l, h => by
    have h' := List.pairwise_cons.mp h
    unfold insZ
    split
    · rename_i c
      refine List.pairwise_cons.mpr ⟨fun z hz => ?_, h⟩
      rcases List.mem_cons.mp hz with e | e
      · rw [e]; exact c
      · exact Int.le_trans c (h'.1 z e)
    · rename_i c
      refine List.pairwise_cons.mpr ⟨fun z hz => ?_, insZ_pw h'.2⟩
      rcases List.mem_cons.mp ((insZ_perm x l).mem_iff.mp hz) with e | e
      · rw [e]; omega
      · exact h'.1 z e
theorem sortZ_pw : ∀ l : List Int, (sortZ l).Pairwise (· ≤ ·)
  | [] => .nil
  | _ :: l => insZ_pw (sortZ_pw l)
theorem srt_one : ∀ {l m : List Int}, l.Perm m → l.Pairwise (· ≤ ·) → m.Pairwise (· ≤ ·) → l = m
  | [], m, p, _, _ => (List.Perm.nil_eq p)
  | x :: l, [], p, _, _ => by have := p.length_eq; simp at this
  | x :: l, y :: m, p, h1, h2 => by
    have a := List.pairwise_cons.mp h1
    have b := List.pairwise_cons.mp h2
    have xy : x = y := by
      have c1 : y ≤ x := by
        rcases List.mem_cons.mp (p.mem_iff.mp (List.mem_cons_self (a := x) (l := l))) with e | e
        · rw [e]; exact Int.le_refl _
        · exact b.1 x e
      have c2 : x ≤ y := by
        rcases List.mem_cons.mp (p.mem_iff.mpr (List.mem_cons_self (a := y) (l := m))) with e | e
        · rw [e]; exact Int.le_refl _
        · exact a.1 y e
      exact Int.le_antisymm c2 c1
    subst xy
    rw [srt_one (List.Perm.cons_inv p) a.2 b.2]
def kSortX (B : Nat) (vs : List Vl) (h : Hs) : Rs Vl := match vs with
  | [.p (.tup ds)] => match nums ds with
    | some ns => if ns.length < 64 then ret (.p (.lst ((sortZ ns).map .int))) h else none
    | none => none
  | vs => kSortT B vs h
theorem rpInts {T : Tb} {K : PySem.W.Frag} {M : Trk} {H : Hp} : ∀ ns : List Int, RpA T K M H (ns.map P.int) (ns.map V.int)
  | [] => .nil
  | n :: ns => .cons (.int n) (rpInts ns)
theorem s_sortX {T : Tb} {B : Nat} : OpN T X.K (kSortX B) (fun xs H Q => rSortedX X.K xs H Q ∨ rSortX X.K B xs H Q) := by
  intro M H h vs xs Er Q hr r p
  unfold kSortX at p
  split at p
  · split at p
    · rename_i ds ns q
      split at p
      · rename_i hz
        cases r with
        | cons r1 r2 =>
          cases r2
          cases r1 with
          | p r1 =>
            cases r1 with
            | tup l ra =>
              have e := RpA.nums ra q
              subst e
              refine .inl ⟨_, ns, rfl, l.sqT, hz, fun ns' pa a1 a2 hq => ?_⟩
              have e2 : ns' = sortZ ns := srt_one (a1.trans (sortZ_perm ns).symm) a2 (sortZ_pw ns)
              subst e2
              exact p.ret (.fresh hq) (hr.fresh hq) (new_lst hr hq (rpInts _))
      · exact p.elim
    · exact p.elim
  · exact .inr (s_sortT M H h _ xs Er Q hr r p)
theorem sim_sortX {T : Tb} {W : WX} (B : Nat) {e : Expr} {a : MA} {p pos : Pos} (hm : X.mg "sorted" = none) (hb : bootBuiltins "sorted" = some (.builtin "sorted")) (ha : SimA T X W [e] a) (hg : Gl X "sorted" := by rfl)
    (he : starEach [e] X.env = (false, eval e X.env) :: starEach [] X.env := by rfl) : SimE T X W (.Call (.Name "sorted" p) [e] [] pos) (mAll (kSortX B) a) :=
  sim_callB (r := fun xs H Q => rSortedX X.K xs H Q ∨ rSortX X.K B xs H Q) (cr_sortedX.or fun pins s σ H xs us Q I r ⟨d, hd, h⟩ => cr_sortT hd pins s σ H xs us Q I r h) s_sortX hg hm hb ha (he := he) (hpl := rfl)
/-! ### [..] * n that will be changed: tracked -/
def fRepLT (v w : Vl) (h : Hs) : Rs Vl := match v, w with
  | .p (.lst ds), .p (.int k) => if -(2 ^ 63) ≤ k ∧ k < 2 ^ 63 ∧ ds.length * k.toNat ≤ 16777216 then ret (.ref h.length) (h ++ [.lst (List.replicate k.toNat ds).flatten]) else none
  | _, _ => none
theorem s_repLT {T : Tb} : Op2 T X.K fRepLT rRep := by
  intro M H h v w x y Er Q hr rx ry p
  unfold fRepLT at p
  split at p
  · split at p
    · rename_i hz
      cases rx with
      | p rx =>
        cases rx with
        | lst a n ra =>
          cases ry with
          | p ry =>
            cases ry
            exact ⟨_, _, _, rfl, rfl, a, hz.1, hz.2.1, by rw [← ra.length]; exact le_line hz.2.2, fun q hq => p.ret (.track hq) (trk_lst hr hq (ra.rep _)) (.ref (hr.newest q))⟩
    · exact p.elim
  · exact p.elim
theorem sim_repLT {T : Tb} {W : WX} {ea eb : Expr} {a b : ME} {pos : Pos} (ha : SimE T X W ea a) (hb : SimE T X W eb b) : SimE T X W (.BinOp ea .Mult eb pos) (m2 fRepLT a b) := sim_op op_rep s_repLT ha hb
end
end EV
end T36
section T37
set_option Elab.async false
set_option linter.all false
set_option maxRecDepth 100000
set_option maxHeartbeats 1000000
namespace TS
open PySem PySem.Builtin PyProof.Rows L2
section
variable {prog : Program} {w : World} {A : Around} {s : Shared} {E : Value → Shared → Prop}
/-- sorted(t) of a tuple of tuples of ints -/
theorem sorted_tupT {l : Addr} {vs : List Value} {d : Nat} {B : Int} {Q : Value → Shared → Prop} (ht : s.heap.IsTuple l vs.toArray) (few : vs.length < 64) (one : 1 ≤ d) (ok : TupsOk s.heap d B vs)
    (fin : ∀ out : Array Value, out.toList.Perm vs → out.toList.Pairwise (fun u v => code B (intsOf s.heap u) ≤ code B (intsOf s.heap v)) → Q (.ref (s.heap.objs.size + 1)) { s with heap := sortedAll s.heap vs out }) :
    wpAny (model prog w) A (call (.builtin "sorted") [.ref l]) Q E s := by
  refine Calls.call_function_entry kind_sorted plain_sorted entry_sorted (args_sorted1 _) ?_
  unfold Builtin.«sorted»
  refine wpAny_bind (m := checkCount "sorted" 1 1 _) (wpAny_pure ?_)
  refine wpAny_bind (collect_tup ht ?_ (by rw [sizeLine_eq]; omega))
  refine wpAny_bind (wpAny_newList ?_ (by rw [sizeLine_eq]; omega))
  let h1 := (s.heap.push (seqObj "list" #[] 0)).update s.heap.objs.size (Obj.mapSeq (· ++ vs.toArray))
  have size1 : h1.objs.size = s.heap.objs.size + 1 := by
    show ((s.heap.push (seqObj "list" #[] 0)).update s.heap.objs.size (Obj.mapSeq (· ++ vs.toArray))).objs.size = _
    rw [Heap.size_update, size_push']
  have new : (h1.push (seqObj "list" vs.toArray 0)).get? (s.heap.objs.size + 1) = some (seqObj "list" vs.toArray 0) := by
    rw [← size1]; exact Heap.get?_push_size _ rfl
  have keep : ∀ b o, s.heap.get? b = some o → o.cls = .type "tuple" → (h1.push (seqObj "list" vs.toArray 0)).get? b = some o := fun b o q _ => by
    have lt : b < s.heap.objs.size := Heap.lt_size q
    have ne1 : b ≠ h1.objs.size := by rw [size1]; exact Nat.ne_of_lt (Nat.lt_succ_of_lt lt)
    refine (Heap.get?_push_ne _ _ _ ne1).trans ?_
    refine (Heap.get?_update_ne _ _ _ _ (Nat.ne_of_lt lt)).trans ?_
    exact (Heap.get?_push_ne _ _ _ (Nat.ne_of_lt lt)).trans q
  show wpAny _ _ _ _ _ { s with heap := h1.push (seqObj "list" vs.toArray 0) }
  rw [show ((s.heap.push (seqObj "list" #[] 0)).update s.heap.objs.size (Obj.mapSeq (· ++ vs.toArray))).objs.size = s.heap.objs.size + 1 from size1]
  refine wpAny_bind (wpAny_holding (wpAny_call_entry slot_list_sort ⟨_, new, rfl⟩ entry_list_sort (sort_tups new few one (ok.keeps keep) (fun v => code B (intsOf s.heap v)) (fun v hv ns t => ?_) fun out p1 p2 => ⟨_, rfl, ?_⟩) (args_list_sort _)))
  · obtain ⟨ns0, t0, _⟩ := ok v hv
    have e : ns = ns0 := t.ints.symm.trans (t0.keeps keep).ints
    rw [e]
    show code B (intsOf s.heap v) = code B ns0
    rw [t0.ints]
  · exact wpAny_pure ⟨_, rfl, fin out p1 p2⟩
end
end TS
namespace EV
open PySem PySem.Spec PyProof.Rows L2
section
variable {T : Tb} {X : Cx} {W : WX}
theorem range_getD (ns : List Int) : (List.range ns.length).map (fun i => ns.getD i 0) = ns := by
  refine List.ext_getElem? fun i => ?_
  rw [List.getElem?_map]
  by_cases h : i < ns.length
  · rw [List.getElem?_range h, List.getElem?_eq_getElem h]
    show some (ns.getD i 0) = _
    rw [List.getD_eq_getElem?_getD, List.getElem?_eq_getElem h]; rfl
  · rw [List.getElem?_eq_none (by simpa using h), List.getElem?_eq_none (by omega)]; rfl
/-- how many different ints -/
def diffI (ns : List Int) : Nat := (ns.foldl step_dedup []).length
def tLenSetD (K : PySem.W.Frag) (ta : TE) : TE := fun σ H Q => ta σ H fun x H1 => ∃ (l : Addr) (ns : List Int), x = V.ref l ∧ SqL K H1 l (ns.map V.int) ∧ ns.length < 64 ∧ Q (.int (diffI ns)) H1
theorem pe_lenSetD {a : Expr} {ta : TE} {p p2 q pos : Pos} (hc : X.calm = true) (hg : Gl X "len") (hm : X.mg "len" = none) (hg2 : Gl X "set") (hm2 : X.mg "set" = none) (ha : PE X a ta)
    (na : starEach [a] X.env = (false, eval a X.env) :: starEach [] X.env := by rfl) : PE X (.Call (.Name "len" p) [.Call (.Name "set" p2) [a] [] q] [] pos) (tLenSetD X.K ta) := by
  refine ⟨fun pins s σ H Q I h => ?_⟩
  refine Call_ (ld_blt I hg hm PySem.boot_len ?_)
  refine PyProof.Rows.callWith_builtin1 (PyProof.Rows.args_cons ?_ rfl) rfl rfl
  refine Call_ (ld_blt I hg2 hm2 PyProof.Rows.boot_set ?_)
  refine PyProof.Rows.callWith_type1 (PyProof.Rows.args_cons (thn (ha.run pins s σ H _ I h) fun v s1 ⟨x, H1, I1, r1, q1⟩ => PyProof.Rows.args_nil ?_) na) na rfl
  obtain ⟨l, ns, rfl, hq, h1, q1⟩ := q1
  cases r1
  obtain ⟨its, r, pl, hz⟩ := I1.list hq
  have hl : its.toArray.size = ns.length := by rw [List.size_toArray, ← r.length, List.length_map]
  refine call_set_list (I1.ok.hd hc) pl.isList (ns := ns) (by simpa using r.ints) (by unfold scanBound; omega) fun h' tk hS hk => ?_
  rw [hl] at hS
  refine PyProof.Rows.args_nil ?_
  obtain ⟨o, es, ep, t, ho, hex, hd, _, _, _, hf, hn⟩ := hS
  have I2 : Inv X pins σ H1 { s1 with heap := h', toks := tk } := I1.kept fun b o e => hk b o (Heap.lt_size e) e
  have e : es.size = diffI ns := by
    rw [hn]
    unfold firstMet diffI
    rw [range_getD]
  have lt : es.size < 64 := by
    rw [hn]; exact Nat.lt_of_le_of_lt (firstMet_length_le _ _) h1
  refine call_len_set ho hex hd hf (by omega) ⟨.int (diffI ns), H1, I2.tok _, ⟨_, by rw [e]⟩, q1⟩
def kLenSetI (v : Vl) (h : Hs) : Rs Vl := match v with
  | .p (.lst ds) => match nums ds with
    | some ns => if ns.length < 64 then pI (diffI ns) h else none
    | none => none
  | _ => none
theorem sim_lenSetI {a : Expr} {m : ME} {p p2 q pos : Pos} (hc : X.calm = true) (m1 : X.mg "len" = none) (m2 : X.mg "set" = none) (ha : SimE T X W a m) (g1 : Gl X "len" := by rfl) (g2 : Gl X "set" := by rfl)
    (na : starEach [a] X.env = (false, eval a X.env) :: starEach [] X.env := by rfl) : SimE T X W (.Call (.Name "len" p) [.Call (.Name "set" p2) [a] [] q] [] pos) (EV.m1 kLenSetI m) := by
  refine PE.weak (pe_lenSetD hc g1 m1 g2 m2 ha na) fun σ H Q ⟨S, M, h, sr, hr, pp⟩ => tr_then sr hr pp fun v h1 M1 H1 x e1 sr1 hr1 r1 p1 => ?_
  unfold kLenSetI at p1
  split at p1
  · split at p1
    · rename_i ds ns el
      split at p1
      · rename_i hz
        cases r1 with
        | p r1 =>
          cases r1 with
          | lst ht no ra =>
            have e := RpA.nums ra el
            subst e
            exact ⟨_, ns, rfl, .of ht, hz, p1.ret .refl hr1 (.p (.int _))⟩
      · exact p1.elim
    · exact p1.elim
  · exact p1.elim
/-! ### sorted(t) of a tuple of tuples of ints -/
def rSortTT (K : PySem.W.Frag) (d : Nat) (B : Int) : List V → Hp → VK → Prop := fun vs H Q => ∃ (a : Addr) (xs : List V), vs = [V.ref a] ∧ SqT K H a xs ∧ xs.length < 64 ∧ (∀ x ∈ xs, ∃ ns, TupI K H x ns ∧ ns.length = d ∧ TS.Bd B ns) ∧
  ∀ (ys : List V) (p : Addr), ys.Perm xs → ys.Pairwise (fun x y => ∀ n m, TupI K H x n → TupI K H y m → TS.code B n ≤ TS.code B m) → H p = none → Q (.ref p) (upd H p (.lst ys))
theorem cr_sortTT {d : Nat} {B : Int} (one : 1 ≤ d) : CallR X (.builtin "sorted") (rSortTT X.K d B) := by
  intro pins s σ H vs us Q I r h
  obtain ⟨a, xs, rfl, hs, few, hx, q⟩ := h
  obtain ⟨its, rv, pt, hz⟩ := I.tuple hs
  rw [Vals.ref1 r]
  obtain ⟨e1, e2⟩ := bkV_refs rv fun x m => by
    obtain ⟨ns, ⟨t, e, _⟩, _⟩ := hx x m
    exact ⟨t, e⟩
  refine TS.sorted_tupT (d := d) (B := B) pt (by rw [← rv.length]; exact few) one (fun v hv => ?_) fun out p1 p2 => ?_
  · obtain ⟨t, rfl⟩ := e2 v hv
    have hm : V.ref t ∈ xs := by rw [e1]; exact List.mem_map.mpr ⟨_, hv, rfl⟩
    obtain ⟨ns, ⟨t', e, ht⟩, hn, hb⟩ := hx _ hm
    cases e
    exact ⟨ns, tupI_raw I ht, hn, hb⟩
  · obtain ⟨ep, laid⟩ := PyProof.Rows.sortedAll_at s.heap its out
    have refs : ∀ u ∈ out.toList, ∃ a, u = Value.ref a := fun u hu => e2 u (p1.mem_iff.mp hu)
    have pm : (out.toList.map bkV).Perm xs := by rw [e1]; exact p1.map bkV
    have fit : (out.toList.map bkV).length ≤ sizeLine := by rw [pm.length_eq]; exact small64 few
    refine ⟨.ref _, upd H (s.heap.objs.size + 1) (.lst (out.toList.map bkV)), I.laid (t' := s.toks) (fun _ _ => PyProof.Rows.sortedAll_old) (Nat.le_succ _) ⟨fit, out.toList, ep, bkV_vals refs, laid⟩, rfl, q _ _ pm ?_ (I.hok.fresh (Nat.le_succ _))⟩
    rw [List.pairwise_map]
    refine List.Pairwise.imp (fun {u v} le n m hn hm => ?_) p2
    obtain ⟨t, et, ht⟩ := hn
    obtain ⟨t', et', ht'⟩ := hm
    have eu := bkV_ref et
    have ev := bkV_ref et'
    have i1 : TS.intsOf s.heap u = n := by rw [eu]; exact (tupI_raw I ht).ints
    have i2 : TS.intsOf s.heap v = m := by rw [ev]; exact (tupI_raw I ht').ints
    rw [← i1, ← i2]; exact le
def kSortTT (B : Nat) (ds : List P) (h : Hs) : Rs Vl := match tupsI ds with
  | some l => if ds.length < 64 ∧ 1 ≤ (l.headD [0]).length ∧ okT B (l.headD [0]).length l = true then ret (.p (.lst ((sortC B l).map mkT))) h else none
  | none => none
def kSortY (B : Nat) (vs : List Vl) (h : Hs) : Rs Vl := match vs with
  | [.p (.tup ds)] => match nums ds with
    | some ns => if ns.length < 64 then ret (.p (.lst ((sortZ ns).map .int))) h else none
    | none => kSortTT B ds h
  | vs => kSortT B vs h
abbrev rSortTX (K : PySem.W.Frag) (B : Nat) : List V → Hp → VK → Prop := fun xs H Q => ∃ d, 1 ≤ d ∧ rSortTT K d B xs H Q
theorem s_sortY {B : Nat} : OpN T X.K (kSortY B) (fun xs H Q => rSortedX X.K xs H Q ∨ (rSortTX X.K B xs H Q ∨ rSortX X.K B xs H Q)) := by
  intro M H h vs xs Er Q hr r p
  unfold kSortY at p
  split at p
  · split at p
    · rename_i ds ns q
      split at p
      · rename_i hz
        cases r with
        | cons r1 r2 =>
          cases r2
          cases r1 with
          | p r1 =>
            cases r1 with
            | tup l ra =>
              have e := RpA.nums ra q
              subst e
              refine .inl ⟨_, ns, rfl, l.sqT, hz, fun ns' pa a1 a2 hq => ?_⟩
              have e2 : ns' = sortZ ns := srt_one (a1.trans (sortZ_perm ns).symm) a2 (sortZ_pw ns)
              subst e2
              exact p.ret (.fresh hq) (hr.fresh hq) (new_lst hr hq (rpInts _))
      · exact p.elim
    · rename_i ds q
      unfold kSortTT at p
      split at p
      · rename_i l el
        split at p
        · rename_i hz
          cases r with
          | cons r1 r2 =>
            cases r2
            cases r1 with
            | p r1 =>
              cases r1 with
              | tup lt ra =>
                refine .inr (.inl ⟨(l.headD [0]).length, hz.2.1, _, _, rfl, lt.sqT, by rw [← ra.length]; exact hz.1, fun x hx => ?_, fun zs q pz pw hq => ?_⟩)
                · obtain ⟨i, hi⟩ := List.getElem?_of_mem hx
                  obtain ⟨d, hd, rd⟩ := ra.get' hi
                  have eq := tupsI_eq el
                  rw [eq, List.getElem?_map] at hd
                  cases hl : l[i]? with
                  | none => rw [hl] at hd; cases hd
                  | some ns =>
                    rw [hl] at hd
                    cases hd
                    exact ⟨ns, rd.tupI (srtd_of.nums_map ns), okT_at hz.2.2 (List.mem_of_getElem? hl)⟩
                · obtain ⟨ds', rz, pd⟩ := ra.perm pz
                  obtain ⟨l', el', pl⟩ := tupsI_perm pd el
                  have s1 := srtd_of rz el' pw
                  have e2 : l' = sortC B l := by
                    refine srt_uniq (pl.trans (sortC_perm B l).symm) s1 (sortC_srt B l) fun x hx y hy e => ?_
                    obtain ⟨a1, a2⟩ := okT_at hz.2.2 (pl.mem_iff.mp hx)
                    obtain ⟨b1, b2⟩ := okT_at hz.2.2 (pl.mem_iff.mp hy)
                    exact code_inj (by omega) (a1.trans b1.symm) a2 b2 e
                  have e3 := tupsI_eq el'
                  rw [e2] at e3
                  rw [e3] at rz
                  exact p.ret (.fresh hq) (hr.fresh hq) (new_lst hr hq rz)
        · exact p.elim
      · exact p.elim
  · exact .inr (.inr (s_sortT M H h _ xs Er Q hr r p))
theorem sim_sortY (B : Nat) {e : Expr} {a : MA} {p pos : Pos} (hm : X.mg "sorted" = none) (hb : bootBuiltins "sorted" = some (.builtin "sorted")) (ha : SimA T X W [e] a) (hg : Gl X "sorted" := by rfl)
    (he : starEach [e] X.env = (false, eval e X.env) :: starEach [] X.env := by rfl) : SimE T X W (.Call (.Name "sorted" p) [e] [] pos) (mAll (kSortY B) a) :=
  sim_callB (r := fun xs H Q => rSortedX X.K xs H Q ∨ (rSortTX X.K B xs H Q ∨ rSortX X.K B xs H Q)) (cr_sortedX.or (CallR.or (fun pins s σ H xs us Q I r ⟨d, hd, h⟩ => cr_sortTT hd pins s σ H xs us Q I r h) fun pins s σ H xs us Q I r ⟨d, hd, h⟩ => cr_sortT hd pins s σ H xs us Q I r h)) s_sortY hg hm hb ha (he := he) (hpl := rfl)
end
end EV
end T37
section T38
set_option Elab.async false
set_option linter.all false
set_option maxRecDepth 100000
set_option maxHeartbeats 1000000
namespace TX
open PySem PySem.Builtin PyProof.Rows L2 PySem.AutoSeq1
theorem extend_tup (l : Addr) (items : Array Value) (n : Nat) (b : Addr) (items2 : Array Value) (n2 : Nat) (dic : Option Addr) (sl : Array (Option Value)) (hs0 : ¬(!items.isEmpty && Builtin.List.listTooLong (items.size + items2.size)) = true) (hs1 : items.size ≤ sizeLine) (hs2 : items.size + items2.size ≤ sizeLine + 1) :
    Meets (Builtin.«list.extend» ⟨[.ref l, .ref b], []⟩) (fun _ R s => s.heap.get? l = some { cls := .type "list", dict := none, data := .seq items n, slots := #[] } ∧ s.heap.get? b = some { cls := .type "tuple", dict := dic, data := .seq items2 n2, slots := sl } ∧ R (.ok (.ret Value.none)) { s with heap := s.heap.update l (Obj.mapSeq fun x => x ++ items2), toks := s.toks }) :=
  .of_wp fun prog w A R s h => by
    obtain ⟨hp, g, d, tk, os⟩ := s; obtain ⟨hl, hb, h⟩ := h; have f1 := AutoSeq1.idx_int; have f2 := AutoSeq1.sub_tuple_tuple; have f3 := AutoSeq1.sub_list_list; have f4 := AutoSeq1.sub_tuple_list; have f5 := AutoSeq1.sub_list_tuple;
    have hz' : (items ++ items2).size ≤ sizeLine + 1 := by rw [Array.size_append]; exact hs2
    wp_walk using (wpAny_updateSeq hl rfl (hz := hs1) (_hz' := hz')), AutoSeq1.wpAny_loadPart' hl, AutoSeq1.wpAny_loadPart' hb; exact ⟨_, rfl, h⟩
end TX
namespace EV
open PySem PySem.Spec PyProof.Rows L2
section
variable {T : Tb} {X : Cx} {W : WX}
/-! ### l.extend(t), t a tuple -/
def rExtendT (K : PySem.W.Frag) : V → List V → Hp → VK → Prop := fun x vs H Q => ∃ l b xs zs, x = .ref l ∧ vs = [.ref b] ∧ H l = some (.lst xs) ∧ SqT K H b zs ∧ xs.length + zs.length ≤ sizeLine ∧ Q .non (upd H l (.lst (xs ++ zs)))
theorem notLong2 {k n : Nat} (h : k + n ≤ sizeLine) : ¬ (Builtin.List.listTooLong (k + n)) = true := by
  unfold Builtin.List.listTooLong
  have : ¬ sizeLine < k + n := by omega
  simp [this]
theorem mt_extendT : MtM X "list.extend" (rExtendT X.K) := by
  intro pins s σ H x vs v us Q I rx rv h
  obtain ⟨l, b, xs, zs, rfl, rfl, hH, hB, hz, q⟩ := h
  cases rx
  obtain ⟨u, rfl, ru⟩ := rv.one
  cases ru
  obtain ⟨z, its, n, r, hl, e⟩ := I.lstM hH
  obtain ⟨its2, r2, ⟨⟨oc, od, odata, osl⟩, e2, hc, n2, hd⟩, z2⟩ := I.tuple hB
  cases hc
  cases hd
  have l2 := r2.length
  have hsz : its.toArray.size + its2.toArray.size ≤ sizeLine := by rw [List.size_toArray, List.size_toArray]; omega
  have hlong : ¬ (!its.toArray.isEmpty && Builtin.List.listTooLong (its.toArray.size + its2.toArray.size)) = true := fun y => by
    rw [Bool.and_eq_true] at y
    exact notLong2 hsz y.2
  refine call_meets PySem.F.slot_list_extend ⟨_, e, rfl⟩ PySem.F.entry_list_extend (PySem.F.args_list_extend_2 _ _)
    (TX.extend_tup l its.toArray n b its2.toArray n2 od osl hlong (by rw [List.size_toArray]; omega) (by omega)) ⟨e, e2, ?_⟩
  refine ⟨.non, _, I.lset (its' := its ++ its2) hH e (by simp) (r.append r2) ?_, rfl, q⟩
  rw [List.length_append]
  omega
def fExtendT (v : Vl) (vs : List Vl) (h : Hs) : Rs Vl := match v, vs with
  | .ref n, [.p (.tup es)] => match h[n]? with
    | some (.lst ds) => if ds.length + es.length ≤ 16777216 then ret (.p .non) (h.set n (.lst (ds ++ es))) else none
    | _ => none
  | v, vs => fExtend v vs h
theorem s_extendT : MtS T X.K fExtendT (fun x vs H Q => rExtendT X.K x vs H Q ∨ rExtend x vs H Q) := by
  intro M H h v x vs xs Er Q hr rx rvs p
  unfold fExtendT at p
  split at p
  · cases rx with
    | ref ea =>
      obtain ⟨q, hq, c⟩ := hr.got ea
      rw [hq] at p
      cases c with
      | lst hx ra =>
        dsimp only at p
        split at p
        · rename_i hz
          cases rvs with
          | cons r1 r2 =>
            cases r2
            cases r1 with
            | p r1 =>
              cases r1 with
              | tup hb rb =>
                refine .inl ⟨_, _, _, _, rfl, rfl, hx, hb.sqT, by rw [← ra.length, ← rb.length]; exact le_line hz, ?_⟩
                have w := fun (o : HO) => Ext.write (M := M) (H := H) (o := o) (List.mem_of_getElem? ea)
                exact p M _ _ (w _) (hr.write ea (.lst upd_same ((ra.append rb).ext (w _)))) (.p .non)
        · exact p.elim
      | ins _ _ _ => exact p.elim
  · exact .inr (s_extend M H h v x vs xs Er Q hr rx rvs p)
theorem sim_extendT {o e : Expr} {mo : ME} {ma : MA} {apos cpos : Pos} (ho : SimE T X W o mo) (ha : SimA T X W [e] ma)
    (hbase : attributeBase o "extend" X.env (eval o X.env) = eval o X.env := by rfl)
    (hfew : ((backTo cpos (starEach [e] X.env)).all (fun x => !x.1) && (backToKw cpos (keywordEach [] X.env)).all (fun x => x.1.isSome)
      && decide ([e].length + ([] : List Keyword).length + (if ([] : List Keyword).isEmpty then 0 else 1) < 30)) = true := by rfl)
    (hline : (apos.endLine == cpos.line) = true := by rfl) (hs : starEach [e] X.env = (false, eval e X.env) :: starEach [] X.env := by rfl) (hpl : (backTo cpos (starEach [] X.env)).any (·.1) = false := by rfl) :
    SimE T X W (.Call (.Attribute o "extend" apos) [e] [] cpos) (mMethL fExtendT mo ma) := sim_methL PySem.F.slot_list_extend PySem.F.type_list_extend (MtR.or mt_extendT mt_extend) s_extendT ho ha hbase hfew hline hs hpl
/-! ### x in d, the keys of d tuples of ints -/
def rInDT (neg : Bool) : R2 := fun x y H Q => ∃ a o, y = .ref a ∧ DGet H a x o ∧ Q (.bl (if neg then !o.isSome else o.isSome)) H
theorem op_inDT (hu : X.A.units + 1 < cLine) : OpR X (compareOp .In) (rInDT false) := by
  intro pins s σ H x y v u Q I rx ry h
  obtain ⟨a, o, rfl, g, q⟩ := h
  cases ry
  exact d_in hu I g rx fun s3 I3 => ⟨.bl o.isSome, H, I3, rfl, q⟩
theorem op_notInDT (hu : X.A.units + 1 < cLine) : OpR X (compareOp .NotIn) (rInDT true) := by
  intro pins s σ H x y v u Q I rx ry h
  obtain ⟨a, o, rfl, g, q⟩ := h
  cases ry
  exact d_notIn hu I g rx fun s3 I3 => ⟨.bl (!o.isSome), H, I3, rfl, q⟩
def fInDT (neg : Bool) (v w : Vl) (h : Hs) : Rs Vl := match v, w with
  | .p dw, .p (.dct ks vs) => match tupI1 dw with
    | some n => pB (if neg then !(findP ks vs n).isSome else (findP ks vs n).isSome) h
    | none => none
  | _, _ => none
theorem s_inDT (neg : Bool) : Op2 T X.K (fInDT neg) (rInDT neg) := by
  intro M H h v w x y Er Q hr rx ry p
  unfold fInDT at p
  split at p
  · rename_i dw ks vs
    split at p
    · rename_i n en
      cases ry with
      | p ry =>
        cases ry with
        | dct hd hn hk rv =>
          rename_i a kvs
          cases rx with
          | p rx =>
            obtain ⟨b, eb, hb⟩ := tup_key rx en
            subst eb
            refine ⟨a, valV kvs (kyl n), rfl, .t hd hb, ?_⟩
            rcases findP_val (x := n) hk rv with ⟨q1, q2⟩ | ⟨d, u, q1, q2, q3⟩
            · rw [q1] at p
              rw [q2]
              exact p.ret .refl hr (.p (.bl _))
            · rw [q1] at p
              rw [q2]
              exact p.ret .refl hr (.p (.bl _))
    · exact p.elim
  · exact p.elim
variable {ea eb : Expr} {a b : ME} {pos : Pos} {k : Nat}
theorem sim_inDT (hr : Room k X.A) (ha : SimE T X W ea a) (hb : SimE T X W eb b) (hm : behindInMarks .In eb = false := by rfl) : SimE T X W (.Compare ea [.In] [eb] pos) (m2 (fInDT false) a b) := sim_cmp (op_inDT (hu_of hr.r)) (s_inDT false) hm ha hb
theorem sim_notInDT (hr : Room k X.A) (ha : SimE T X W ea a) (hb : SimE T X W eb b) (hm : behindInMarks .NotIn eb = false := by rfl) : SimE T X W (.Compare ea [.NotIn] [eb] pos) (m2 (fInDT true) a b) := sim_cmp (op_notInDT (hu_of hr.r)) (s_inDT true) hm ha hb
theorem simT_inDT (hr : Room k X.A) (ha : SimE T X W ea a) (hb : SimE T X W eb b) (hm : behindInMarks .In eb = false := by rfl) : SimT T X W (.Compare ea [.In] [eb] pos) (mT (m2 (fInDT false) a b)) := simT_cmp (op_inDT (hu_of hr.r)) (s_inDT false) hm ha hb
theorem simT_notInDT (hr : Room k X.A) (ha : SimE T X W ea a) (hb : SimE T X W eb b) (hm : behindInMarks .NotIn eb = false := by rfl) : SimT T X W (.Compare ea [.NotIn] [eb] pos) (mT (m2 (fInDT true) a b)) := simT_cmp (op_notInDT (hu_of hr.r)) (s_inDT true) hm ha hb
end
end EV
end T38
section T39
set_option Elab.async false
set_option linter.all false
set_option maxRecDepth 100000
set_option maxHeartbeats 1000000
namespace EV
open PySem PySem.Spec PyProof.Rows L2
/-! ### calls by keywords -/
/-- what stands at these places -/
def prm {α : Type} (perm : List Nat) (vs : List α) : List α := perm.filterMap fun i => vs[i]?
section
variable {T : Tb} {K : PySem.W.Frag} {M : Trk} {H : Hp}
theorem RVA.nth : ∀ {ds : List Vl} {vs : List V} (i : Nat), RVA T K M H ds vs → (ds[i]? = none ∧ vs[i]? = none) ∨ ∃ d v, ds[i]? = some d ∧ vs[i]? = some v ∧ RV T K M H d v
  | _, _, _, .nil => .inl ⟨by simp, by simp⟩
  | _, _, 0, .cons h r => .inr ⟨_, _, rfl, rfl, h⟩
  | _, _, i + 1, .cons h r => by
    rcases RVA.nth i r with ⟨a, b⟩ | ⟨d, v, a, b, c⟩
    · exact .inl ⟨by simpa using a, by simpa using b⟩
    · exact .inr ⟨d, v, by simpa using a, by simpa using b, c⟩
theorem RVA.prm {ds : List Vl} {vs : List V} (r : RVA T K M H ds vs) : ∀ perm : List Nat, RVA T K M H (EV.prm perm ds) (EV.prm perm vs)
  | [] => .nil
  | i :: perm => by
    have ih := RVA.prm r perm
    unfold EV.prm at ih ⊢
    rcases r.nth i with ⟨a, b⟩ | ⟨d, v, a, b, c⟩
    · rw [List.filterMap_cons, List.filterMap_cons, a, b]; exact ih
    · rw [List.filterMap_cons, List.filterMap_cons, a, b]; exact .cons c ih
theorem vals_nth : ∀ {vs : List V} {us : List Value} (i : Nat), Vals vs us → (vs[i]? = none ∧ us[i]? = none) ∨ ∃ v u, vs[i]? = some v ∧ us[i]? = some u ∧ RelV v u
  | _, _, _, .nil => .inl ⟨by simp, by simp⟩
  | _, _, 0, .cons h r => .inr ⟨_, _, rfl, rfl, h⟩
  | _, _, i + 1, .cons h r => by
    rcases vals_nth i r with ⟨a, b⟩ | ⟨d, v, a, b, c⟩
    · exact .inl ⟨by simpa using a, by simpa using b⟩
    · exact .inr ⟨d, v, by simpa using a, by simpa using b, c⟩
theorem vals_prm {vs : List V} {us : List Value} (r : Vals vs us) : ∀ perm : List Nat, Vals (prm perm vs) (prm perm us)
  | [] => .nil
  | i :: perm => by
    have ih := vals_prm r perm
    unfold prm at ih ⊢
    rcases vals_nth i r with ⟨a, b⟩ | ⟨d, v, a, b, c⟩
    · rw [List.filterMap_cons, List.filterMap_cons, a, b]; exact ih
    · rw [List.filterMap_cons, List.filterMap_cons, a, b]; exact .cons c ih
end
/-- a def, called with such room, however its arguments are written -/
def FnRA (P : Program) (w : World) (K : PySem.W.Frag) (mg : Str → Option Value) (base : Heap) (C : CXT) (k : Nat) (f : Addr) (fd : FuncData) (ps : List Str) (sp : Sp) : Prop :=
  ∀ (A : Around) (outer : List Env) (s : Shared) (H : Hp) (args : Args) (us : List Value) (vs : List V) (Q : VK) (E : XK), Room k A → Env0 P w K mg base A outer s H → BindsTo s fd args (ps.zip us) → us.length = ps.length → Vals vs us → sp vs H Q E → codeAny (model P w) A (.call (.ref f) args) (CR C outer P w H s Q E) s
section
variable {P : Program} {w : World} {K : PySem.W.Frag} {mg : Str → Option Value} {base : Heap} {T : Tb} {C : CXT} {j k : Nat} {f : Addr} {fd : FuncData} {ps : List Str} {sp sp' : Sp}
theorem FnRA.mono (F : FnRA P w K mg base C j f fd ps sp) (h : j ≤ k) : FnRA P w K mg base C k f fd ps sp := fun A outer s H args us vs Q E hr => F A outer s H args us vs Q E (hr.mono h)
theorem FnRA.imp (F : FnRA P w K mg base C k f fd ps sp) (h : ∀ vs H Q E, sp' vs H Q E → sp vs H Q E) : FnRA P w K mg base C k f fd ps sp' := fun A outer s H args us vs Q E hr e b l r z => F A outer s H args us vs Q E hr e b l r (h vs H Q E z)
theorem fn_simA {x qual : Str} {st : Stmt} {N : List Str} {b : MS} {fresh : Bool} (F : Fun K x qual st f fd) (S : FnScope N ps (defScope st))
    (hbody : BodyOk P w K mg base T k qual st f N b) : FnRA P w K mg base (L2.CX P w) (k + 1) f fd ps (spF T K (fnRun ps.length N.length fresh b)) := by
  intro A outer s H args us vs Q E hr e0 hb hlu r h
  have hl := spF_len h
  obtain ⟨oc, od, kV, doc, pm, an, cdv, ct, osl, rfl, lk, hcd⟩ := F.ex
  exact LamX.run_ofS lk hcd S hr.r e0 hb r hl fun _ => body_runs hbody (hr.deeper _) hl h
theorem fn_frameA {g : List Vl → Hs → Rs Vl} (F : FnRA P w K mg base (L2.CX P w) k f fd ps (spF T K g)) : FnRA P w K mg base (L2.CX P w) k f fd ps (spF T K (frame g)) := F.imp fun _ _ _ _ h => frame_sp h
/-- how a call by keywords alone binds; first: what stands ahead of them (a self, a class) -/
def KwB (fd : FuncData) (ps ks : List Str) (perm : List Nat) : Prop := ∀ (s : Shared) (ws : List Value), ws.length = ks.length → BindsTo s fd ⟨[], ks.zip ws⟩ (ps.zip (prm perm ws)) ∧ (prm perm ws).length = ps.length
def KwB1 (fd : FuncData) (ps ks : List Str) (perm : List Nat) : Prop := ∀ (s : Shared) (a : Value) (ws : List Value), ws.length = ks.length → BindsTo s fd ⟨[a], ks.zip ws⟩ (ps.zip (a :: prm perm ws)) ∧ (a :: prm perm ws).length = ps.length
theorem Fun.kw {x qual : Str} {st : Stmt} {ks : List Str} {perm : List Nat} (F : Fun K x qual st f fd)
    (h : ∀ (kV doc pm : Value) (an : Option Addr) (cdv ct : Value) (ws : List Value), ws.length = ks.length → bindArgs (PySem.W.fnOf x qual (defArgs st) (defBody st) (defScope st) .none kV doc pm an cdv ct) ⟨[], ks.zip ws⟩ = pure (ps.zip (prm perm ws)) ∧ (prm perm ws).length = ps.length) : KwB fd ps ks perm := by
  obtain ⟨oc, od, kV, doc, pm, an, cdv, ct, osl, rfl, lk, hcd⟩ := F.ex
  exact fun s ws hl => ⟨BindsTo.of_eq (h kV doc pm an cdv ct ws hl).1, (h kV doc pm an cdv ct ws hl).2⟩
theorem Fun.kw1 {x qual : Str} {st : Stmt} {ks : List Str} {perm : List Nat} (F : Fun K x qual st f fd)
    (h : ∀ (kV doc pm : Value) (an : Option Addr) (cdv ct a : Value) (ws : List Value), ws.length = ks.length → bindArgs (PySem.W.fnOf x qual (defArgs st) (defBody st) (defScope st) .none kV doc pm an cdv ct) ⟨[a], ks.zip ws⟩ = pure (ps.zip (a :: prm perm ws)) ∧ (a :: prm perm ws).length = ps.length) : KwB1 fd ps ks perm := by
  obtain ⟨oc, od, kV, doc, pm, an, cdv, ct, osl, rfl, lk, hcd⟩ := F.ex
  exact fun s a ws hl => ⟨BindsTo.of_eq (h kV doc pm an cdv ct a ws hl).1, (h kV doc pm an cdv ct a ws hl).2⟩
end
section
variable {T : Tb} {X : Cx} {W : WX} {k : Nat}
abbrev SimKw (T : Tb) (X : Cx) (W : WX) (kws : List Keyword) (m : MA) : Prop := PK X kws (trA T X.K W m)
theorem simk_nil : SimKw T X W [] aNil := ⟨fun pos pins s σ H Q I h => by
  obtain ⟨S, M, h', sr, hr, p⟩ := h
  exact pk_nil.run pos pins s σ H Q I (p.ret .refl hr .nil)⟩
theorem simk_cons {e : Expr} {nm : Option Str} {kpos : Pos} {kws : List Keyword} {a : ME} {r : MA} (ha : SimE T X W e a) (hr : SimKw T X W kws r) : SimKw T X W (⟨nm, e, kpos⟩ :: kws) (aCons a r) := ⟨fun pos pins s σ H Q I h => by
  refine (pk_cons ha hr).run pos pins s σ H Q I ?_
  obtain ⟨S, M, h, sr, hr, p⟩ := h
  refine ⟨S, M, h, sr, hr, p.bnd fun v h1 M1 H1 x e1 hr1 r1 p1 => ?_⟩
  refine ⟨S, M1, h1, sr.ext e1, hr1, p1.bnd fun vs h2 M2 H2 xs e2 hr2 r2 p2 => ?_⟩
  exact p2.ret .refl hr2 (.cons (r1.ext e2) r2)⟩
/-- a def as a callee, by keywords -/
structure FnK (T : Tb) (X : Cx) (k : Nat) (x : Str) (ks : List Str) (perm : List Nat) (f : List Vl → Hs → Rs Vl) : Prop where
  ex : ∃ a fd ps, FnRA X.prog X.w X.K X.mg X.base (L2.CX X.prog X.w) k a fd ps (spF T X.K f) ∧ PySem.W.keepIn X.K (.ref a) = true ∧ X.mg x = some (.ref a) ∧ KwB fd ps ks perm
def kPrm (n : Nat) (perm : List Nat) (f : List Vl → Hs → Rs Vl) : List Vl → Hs → Rs Vl := fun vs h => if vs.length = n then f (prm perm vs) h else none
theorem spF_prm {f : List Vl → Hs → Rs Vl} {n : Nat} {perm : List Nat} {vs : List V} {H : Hp} {Q : VK} {E : XK} (h : spF T X.K (kPrm n perm f) vs H Q E) : vs.length = n ∧ spF T X.K f (prm perm vs) H Q E := by
  obtain ⟨args, M, h', ra, hr, p⟩ := h
  unfold kPrm at p
  split at p
  · rename_i hl
    exact ⟨by rw [← ra.length]; exact hl, prm perm args, M, h', ra.prm perm, hr, p⟩
  · exact p.elim
theorem sim_callK {x : Str} {p pos : Pos} {ks : List Str} {perm : List Nat} {kws : List Keyword} {a : MA} {f : List Vl → Hs → Rs Vl} (F : FnK T X k x ks perm f) (tk : Takes X W) (hr : Room k X.A) (hg : Gl X x) (ha : SimKw T X W kws a) (hd : (x == ("__debug__" : Str)) = false := by decide)
    (hall : (backToKw pos (keywordEach kws X.env)).all (·.1.isSome) = true := by rfl) (hks : (backToKw pos (keywordEach kws X.env)).filterMap (·.1) = ks := by rfl)
    (hpl : ((backTo pos (starEach [] X.env)).any (·.1) || (backToKw pos (keywordEach kws X.env)).any (·.1.isNone)) = false := by rfl) : SimE T X W (.Call (.Name x p) [] kws pos) (mAll (kPrm ks.length perm f) a) := by
  obtain ⟨ad, fd, ps, F, kp, hm, hb⟩ := F.ex
  refine ⟨fun pins s σ H Q I h => wpAny_Call_Name_kw (ld_glob I hg hm ?_ hd)⟩
  refine PySem.W.callWith_KW0 (h₀ := X.base) I.ok.mod.kin kp hall (thn (ha.run pos pins s σ H _ I (trA_spF h)) fun ws s1 ⟨zs, H1, I1, rz, q⟩ => ⟨I1.kIn, ?_⟩) hpl
  rw [hks]
  obtain ⟨hl, q⟩ := spF_prm q
  obtain ⟨b1, b2⟩ := hb s1 ws (by rw [← rz.length]; exact hl)
  refine wpAny_call (codeAny_mono (F X.A X.stack s1 H1 ⟨[], ks.zip ws⟩ (prm perm ws) (prm perm zs) Q _ hr I1.env0 b1 b2 (vals_prm rz perm) q) fun r s' hq => ?_)
  cases r with
  | error e => exact tk e s' (XE.of_call I1 (fun _ _ _ h => h) hq)
  | ok fl =>
    cases fl with
    | ret u => exact I1.after hq
    | next => exact False.elim hq
    | brk => exact False.elim hq
    | cont => exact False.elim hq
/-! C.m(k = v, ..), m a classmethod -/
structure CmK (T : Tb) (X : Cx) (k c : Nat) (x m : Str) (ks : List Str) (perm : List Nat) (g : List Vl → Hs → Rs Vl) : Prop where
  ex : ∃ mc p a fd ps, ClX.CRead X.K (T.cls c) mc ∧ ClX.CMet X.K (T.cls c) mc m p a ∧ FnRA X.prog X.w X.K X.mg X.base (L2.CX X.prog X.w) k a fd ps (spF T X.K g) ∧ KwB1 fd ps ks perm
  mg : X.mg x = some (.ref (T.cls c))
  fns : T.fns (1000 + c) = T.cls c
/-- what stands first goes first -/
def kPrm1 (n : Nat) (perm : List Nat) (v : Vl) (g : List Vl → Hs → Rs Vl) : List Vl → Hs → Rs Vl := fun vs h => if vs.length = n then g (v :: prm perm vs) h else none
theorem run_cmK {pins : List (Addr × Obj)} {σ : L2.St} {H : Hp} {s : Shared} {q a C : Addr} {fd : FuncData} {ps : List Str} {f : List Vl → Hs → Rs Vl} {Q : VK} {args : List (Str × Value)} {us : List Value} {vs : List V} (F : FnRA X.prog X.w X.K X.mg X.base (L2.CX X.prog X.w) k a fd ps (spF T X.K f)) (tk : Takes X W) (hr : Room k X.A)
    (I : Inv X ((q, PySem.W.methodObj (.ref a) (.ref C)) :: pins) σ H s) (hb : BindsTo s fd ⟨[.ref C], args⟩ (ps.zip (.ref C :: us))) (hl : (Value.ref C :: us).length = ps.length) (r : Vals vs us) (h : spF T X.K f (.ref C :: vs) H Q (fun c d H' => W c d σ H')) : wpAny (model X.prog X.w) X.A (call (.ref q) [] args) (EP X pins σ Q) X.xe s := by
  have z : wpAny (model X.prog X.w) X.A (call (.ref q) [] args) (EP X ((q, PySem.W.methodObj (.ref a) (.ref C)) :: pins) σ Q) X.xe s := by
    refine wpAny_call (PySem.W.method_call (ClX.pin_at I) (codeAny_mono (F X.A X.stack s H ⟨[.ref C], args⟩ (.ref C :: us) (.ref C :: vs) Q _ hr I.env0 hb hl (.cons rfl r) h) fun r s' hq => ?_))
    cases r with
    | error e => exact tk e s' (XE.of_call I (fun _ _ _ h => h) hq)
    | ok fl =>
      cases fl with
      | ret u => exact I.after hq
      | next => exact False.elim hq
      | brk => exact False.elim hq
      | cont => exact False.elim hq
  exact thn z fun _ _ y => ClX.unpinE y
theorem sim_cmK (c : Nat) {x m : Str} {p apos pos : Pos} {ks : List Str} {perm : List Nat} {kws : List Keyword} {a : MA} {g : List Vl → Hs → Rs Vl} {pl : Sem Bool} (Z : CmK T X k c x m ks perm g) (tk : Takes X W) (hr : Room k X.A) (hg : Gl X x) (ha : SimKw T X W kws a) (hd : (x == ("__debug__" : Str)) = false := by decide)
    (hall : (backToKw pos (keywordEach kws X.env)).all (·.1.isSome) = true := by rfl) (hks : (backToKw pos (keywordEach kws X.env)).filterMap (·.1) = ks := by rfl)
    (hpl : ((backTo pos (starEach [] X.env)).any (·.1) || (backToKw pos (keywordEach kws X.env)).any (·.1.isNone)) = false := by rfl)
    (ht : eval (.Call (.Attribute (.Name x p) m apos) [] kws pos) X.env = (do
      let ov ← eval (.Name x p) X.env
      standAt apos.atName
      let (f, first) ← holding [ov] (getMethod ov m pl)
      callWith pos f first (backTo pos (starEach [] X.env)) (backToKw pos (keywordEach kws X.env))) := by rfl) :
    SimE T X W (.Call (.Attribute (.Name x p) m apos) [] kws pos) (mAll (kPrm1 ks.length perm (.p (.fn (1000 + c))) g) a) := by
  obtain ⟨mc, pp, q, fd, ps, r, cm, F, hb⟩ := Z.ex
  refine ⟨fun pins s σ H Q I h => ?_⟩
  have h2 : trA T X.K W a σ H fun vs H1 => vs.length = ks.length ∧ spF T X.K g (.ref (T.cls c) :: prm perm vs) H1 Q (fun cc d H' => W cc d σ H') := by
    obtain ⟨S, M, h, sr, hr, p⟩ := h
    refine trA_then sr hr p fun vs h1 M1 H1 xs e1 sr1 hr1 r1 p1 => ?_
    unfold kPrm1 at p1
    split at p1
    · rename_i hl
      exact ⟨by rw [← r1.length]; exact hl, .p (.fn (1000 + c)) :: prm perm vs, M1, h1, .cons (.p (by have z := Rp.fn (T := T) (K := X.K) (M := M1) (H := H1) (1000 + c); rw [Z.fns] at z; exact z)) (r1.prm perm), hr1, p1⟩
    · exact p1.elim
  refine PySem.W.methodCall_KW (pl := pl) (thn ((pe_glob (pos := p) (v := .ref (T.cls c)) hg Z.mg rfl hd).run pins s σ H (fun v H1 => v = .ref (T.cls c) ∧ H1 = H) I ⟨rfl, rfl⟩) fun u s1 ⟨v, H1, I1, rv, q1⟩ => ?_) ht
  obtain ⟨rfl, rfl⟩ := q1
  obtain rfl : u = Value.ref (T.cls c) := rv
  refine ClX.getmethcm_ok I1 r cm fun s2 I2 => ?_
  refine PySem.W.callWith_of (P := PySem.W.MethP X.K _ q (.ref (T.cls c))) hpl (PySem.W.keeps_M cm.fi) (evalArgs_kw2_nil hall (thn (ha.run pos _ s2 σ H1 _ I2 h2) fun ws s3 ⟨zs, H2, I3, rz, hl, q2⟩ => ⟨⟨ClX.pin_at I3, I3.kIn⟩, ?_⟩))
  rw [hks]
  obtain ⟨b1, b2⟩ := hb s3 (.ref (T.cls c)) ws (by rw [← rz.length]; exact hl)
  exact run_cmK F tk hr I3 b1 b2 (vals_prm rz perm) q2
/-! o(k = v, ..), o an instance -/
theorem callO_ofK {M : Model} {A : Around} {E : Value → Shared → Prop} {s : Shared} {a : Addr} {pos : Pos} {Q : Value → Shared → Prop} {args : List (Bool × Sem Value)} {kws : List (Option Str × Sem Value)} (hplain : (args.any (·.1) || kws.any (·.1.isNone)) = false)
    (h : wpAny M A (evalArgs (.ref a) true args kws) (fun z s₁ => (∃ C ox od, PySem.W.InstAt s₁.heap a ox C od ∧ ox.data = .plain) ∧ wpAny M A (call (.ref a) ([] ++ z.pos) z.kw) Q E s₁) E s) : wpAny M A (callWith pos (.ref a) [] args kws) Q E s := by
  unfold callWith
  refine wpAny_bind (wpAny_holding (wpAny_mono h (fun z s₁ h₁ => wpAny_bind (wpAny_standAt ?_)) fun _ _ y => y))
  obtain ⟨⟨C, ox, od, J, hd⟩, h₁⟩ := h₁
  have L := PySem.W.kco_keeper (M := M) J hd
  simp only [hplain]
  refine wpAny_bind (L.here ?_)
  have tail : ∀ {t : Sem Value}, wpAny M A t Q E s₁ → wpAny M A (t >>= fun r => holding [r] point >>= fun _ => pure r) Q E s₁ :=
    fun ht => wpAny_bind (wpAny_mono ht (fun r s₂ hr => wpAny_bind (wpAny_holding (wpAny_point (wpAny_pure hr)))) fun _ _ y => y)
  exact tail (wpAny_operateT h₁)
structure CallK (T : Tb) (X : Cx) (k c : Nat) (ks : List Str) (perm : List Nat) (g : List Vl → Hs → Rs Vl) : Prop where
  ex : ∃ a fd ps, StX.CallO X.K (T.cls c) a ∧ FnRA X.prog X.w X.K X.mg X.base (L2.CX X.prog X.w) k a fd ps (spF T X.K g) ∧ KwB1 fd ps ks perm
def mCallOK (c n : Nat) (perm : List Nat) (g : List Vl → Hs → Rs Vl) (o : ME) (a : MA) : ME := fun S h => bnd (o S h) fun v h1 => match fldV v h1 with
  | some (c', _) => if c' = c then bnd (a S h1) fun vs h2 => match fldV v h2 with
      | some (c'', _) => if c'' = c then kPrm1 n perm v g vs h2 else none
      | none => none
    else none
  | none => none
theorem sim_callOK (c : Nat) {fe : Expr} {ks : List Str} {perm : List Nat} {kws : List Keyword} {m : ME} {a : MA} {g : List Vl → Hs → Rs Vl} {pos : Pos} (Z : CallK T X k c ks perm g) (tk : Takes X W) (hr : Room k X.A) (hf : SimE T X W fe m) (ha : SimKw T X W kws a)
    (ht : eval (.Call fe [] kws pos) X.env = (do callWith pos (← eval fe X.env) [] (backTo pos (starEach [] X.env)) (backToKw pos (keywordEach kws X.env))) := by rfl)
    (hall : (backToKw pos (keywordEach kws X.env)).all (·.1.isSome) = true := by rfl) (hks : (backToKw pos (keywordEach kws X.env)).filterMap (·.1) = ks := by rfl)
    (hpl : ((backTo pos (starEach [] X.env)).any (·.1) || (backToKw pos (keywordEach kws X.env)).any (·.1.isNone)) = false := by rfl) : SimE T X W (.Call fe [] kws pos) (mCallOK c ks.length perm g m a) := by
  obtain ⟨q, fd, ps, C, F, hb⟩ := Z.ex
  refine ⟨fun pins s σ H Q I ⟨S, M, h, sr, hR, p⟩ => ?_⟩
  have h2 : tr T X.K W m σ H fun y H1 => ∃ ad, y = V.ref ad ∧ trA T X.K W a σ H1 fun vs H2 => StX.InsC X H2 ad (T.cls c) ∧ vs.length = ks.length ∧ spF T X.K g (V.ref ad :: prm perm vs) H2 Q (fun cc d H' => W cc d σ H') := by
    refine tr_then sr hR p fun v h1 M1 H1 x e1 sr1 hr1 r1 p1 => ?_
    split at p1
    · rename_i c' fs q1
      split at p1
      · rename_i hc
        subst hc
        obtain ⟨ad, dx, gs, rfl, z, _, _⟩ := r1.fld hr1 q1
        refine ⟨ad, rfl, trA_then sr1 hr1 p1 fun vs h2 M2 H2 xs e2 sr2 hr2 r2 p2 => ?_⟩
        have r1' := r1.ext e2
        split at p2
        · rename_i c'' fs2 q2
          split at p2
          · rename_i hc2
            subst hc2
            obtain ⟨ad2, dx2, gs2, ea, z2, _, _⟩ := r1'.fld hr2 q2
            cases ea
            unfold kPrm1 at p2
            split at p2
            · rename_i hl
              exact ⟨.inr ⟨_, _, z2⟩, by rw [← r2.length]; exact hl, v :: prm perm vs, M2, h2, .cons r1' (r2.prm perm), hr2, p2⟩
            · exact p2.elim
          · exact p2.elim
        · exact p2.elim
      · exact p1.elim
    · exact p1.elim
  rw [ht]
  refine wpAny_bind (thn (hf.run pins s σ H _ I h2) fun u s1 ⟨y, H1, I1, ry, ad, ey, q1⟩ => ?_)
  subst ey
  obtain rfl : u = Value.ref ad := ry
  refine callO_ofK hpl (evalArgs_kw2_nil hall (thn (ha.run pos pins s1 σ H1 _ I1 q1) fun ws s2 ⟨zs, H2, I2, rz, hi, hl, q2⟩ => ?_))
  obtain ⟨ox, od, J, hd⟩ := StX.insC_at I2 hi
  refine ⟨⟨_, ox, od, J, hd⟩, ?_⟩
  rw [hks]
  obtain ⟨b1, b2⟩ := hb s2 (.ref ad) ws (by rw [← rz.length]; exact hl)
  refine wpAny_call (PySem.W.kco_code I2.kIn J hd C.at_ C.fn C.fi (codeAny_mono (F X.A X.stack s2 H2 ⟨[.ref ad], ks.zip ws⟩ (.ref ad :: prm perm ws) (V.ref ad :: prm perm zs) Q _ hr I2.env0 b1 b2 (.cons rfl (vals_prm rz perm)) q2) fun res s' hq => ?_))
  cases res with
  | error er => exact tk er s' (XE.of_call I2 (fun _ _ _ h => h) hq)
  | ok fl =>
    cases fl with
    | ret u => exact I2.after hq
    | next => exact False.elim hq
    | brk => exact False.elim hq
    | cont => exact False.elim hq
end
end EV
end T39
section T40
set_option Elab.async false
set_option linter.all false
set_option maxRecDepth 100000
set_option maxHeartbeats 1000000
namespace EV
open PySem PySem.Spec PyProof.Rows L2
section
variable {P : Program} {w : World} {K : PySem.W.Frag} {mg : Str → Option Value} {k : Nat} {fa : Addr}
/-- what the caller of the law wants -/
abbrev Wanted (s1 : Shared) : Result → Shared → Prop := fun r s' => r = .ok (.ret (.bool true)) ∧ OldK s1.heap s'.heap ∧ s'.os = s1.os ∧ AllBare s'.gens
/-- behind the call: what it told, and that all stands -/
theorem ended {H : Hp} {s1 : Shared} {r : Result} {s2 : Shared} (only : ∀ b, H b = none ∨ ∃ o xs, H b = some (.frz o (.lst xs))) (hok : HOk P w H s1.heap)
    (h : CR (L2.CX P w) [] P w H s1 (fun v _ => v = .bl true) (fun _ _ _ => False) r s2) : Wanted s1 r s2 := by
  match r, h with
  | .error e, h => exact (cx_false h).elim
  | .ok .next, h => exact False.elim h
  | .ok .brk, h => exact False.elim h
  | .ok .cont, h => exact False.elim h
  | .ok (.ret u), h =>
    obtain ⟨v, H2, e1, e2, e3, e4, e5, e6⟩ := h
    have e6 : v = .bl true := e6
    subst e6
    have eu : u = Value.bool true := e5
    subst eu
    refine ⟨rfl, OldK.of_keep fun b ob hb => ?_, e1, e2⟩
    rcases only b with z | ⟨oz, xs, z⟩
    · exact e3.keep b ob hb z (fun y => by cases y) (by simp)
    · have y1 := (hok b _ z).1
      have y2 := (e4 b _ (e3.frzs b oz _ z)).1
      rw [hb] at y1
      cases y1
      exact y2
variable {mb : Str → Option Value} {a : Addr} {s1 : Shared} {vs : List Value} {ns : List Int}
/-- the call at a heap of which nothing but (perhaps) the script is told -/
theorem begun {H : Hp} (KX : K.In s1.heap) (n1 : s1.heap.Ns mainGlobals mg) (n2 : s1.heap.Ns builtinsNs mb) (n3 : ∀ x : Str, x ≠ "__name__" → mb x = bootBuiltins x) (n4 : s1.heap.NoLimit) (n5 : s1.gens = #[])
    (at' : s1.heap.get? a = some { cls := .type "list", data := .seq vs.toArray }) (hr : Room k callerA)
    (F : ∀ base : Heap, K.In base → base.Ns mainGlobals mg → FnR P w K mg base (L2.CX P w) k fa (spScript K))
    (only : ∀ b, H b = none ∨ ∃ o xs, H b = some (.frz o (.lst xs))) (hS : SqL K H a (ns.map V.int)) (hl : ns.length ≤ 63) (hok : HOk P w H s1.heap) (just : ∀ b, H b ≠ none → b = a) (out : H a ≠ none → K.lookup a = none) :
    codeAny (model P w) callerA (.call (.ref fa) ⟨[.ref a], []⟩) (Wanted s1) s1 := by
  have up : ∀ {b : Addr} {ob : Obj}, s1.heap.get? b = some ob → b ≠ a → (hidT s1.heap H).get? b = some ob := fun {b ob} e n => hidT_get e (by
    cases q : H b with
    | none => rfl
    | some _ => exact absurd (just b (by rw [q]; exact fun z => by cases z)) n)
  have nsUp : ∀ {b : Addr} {m : Str → Option Value}, s1.heap.Ns b m → (hidT s1.heap H).Ns b m := fun {b m} ⟨ob, es, ep, e, d, rest⟩ => by
    refine ⟨ob, es, ep, up e fun z => ?_, d, rest⟩
    rw [z, at'] at e
    cases e
    have d : Data.seq vs.toArray _ = Data.dict es ep := d
    cases d
  have kUp : K.In (hidT s1.heap H) := fun b ob e => by
    cases q : H b with
    | none => exact hidT_get (KX b ob e) q
    | some _ =>
      have eb := just b (by rw [q]; exact fun z => by cases z)
      subst eb
      rw [out (by rw [q]; exact fun z => by cases z)] at e
      cases e
  obtain ⟨mc, c1, c2⟩ := n4
  have M : Mod K mg (hidT s1.heap H) := ⟨kUp, nsUp n1, ⟨mb, nsUp n2, n3⟩, mc, nsUp c1, c2⟩
  have E0 : Env0 P w K mg (hidT s1.heap H) callerA [] s1 H := ⟨rfl, M, fun _ _ e => of_hidT e, Nat.le_of_eq (hidT_size _ _), trivial, fun _ z => (by cases z), hok, .of_eq n5⟩
  exact codeAny_mono (F _ kUp (nsUp n1) callerA [] s1 H [.ref a] [.ref a] (fun v _ => v = .bl true) (fun _ _ _ => False) hr E0 (.cons rfl .nil) ⟨a, ns, rfl, hS, hl, fun _ => rfl⟩) fun _ _ z => ended only hok z
theorem called (KX : K.In s1.heap) (n1 : s1.heap.Ns mainGlobals mg) (n2 : s1.heap.Ns builtinsNs mb) (n3 : ∀ x : Str, x ≠ "__name__" → mb x = bootBuiltins x) (n4 : s1.heap.NoLimit) (n5 : s1.gens = #[])
    (at' : s1.heap.get? a = some { cls := .type "list", data := .seq vs.toArray }) (hi : IntsAre vs ns) (hl : ns.length ≤ 63) (hr : Room k callerA)
    (F : ∀ base : Heap, K.In base → base.Ns mainGlobals mg → FnR P w K mg base (L2.CX P w) k fa (spScript K)) : codeAny (model P w) callerA (.call (.ref fa) ⟨[.ref a], []⟩) (Wanted s1) s1 := by
  have rv := vals_ints hi
  have len : vs.toArray.size ≤ sizeLine := by
    have z := hi.length
    rw [List.size_toArray]
    exact le_line (by omega)
  cases hk : K.lookup a with
  | some ob =>
    have e := KX a ob hk
    rw [at'] at e
    cases e
    exact begun (H := fun _ => none) KX n1 n2 n3 n4 n5 at' hr F (fun _ => .inl rfl) (.inr ⟨_, vs.toArray, _, hk, rfl, rfl, rfl, len, by simpa using rv⟩) hl (fun b u z => by have z : (none : Option HO) = some u := z; cases z) (fun _ z => absurd rfl z) fun z => absurd rfl z
  | none =>
    let o0 : Obj := { cls := .type "list", data := .seq vs.toArray }
    let H : Hp := fun b => if b = a then some (.frz o0 (.lst (ns.map V.int))) else none
    have ha : H a = some (.frz o0 (.lst (ns.map V.int))) := if_pos rfl
    have hn : ∀ b, b ≠ a → H b = none := fun b n => if_neg n
    refine begun (H := H) KX n1 n2 n3 n4 n5 at' hr F (fun b => ?_) (.inl (.inr ⟨o0, ha⟩)) hl (fun b u z => ?_) (fun b z => ?_) fun _ => hk
    · rcases Classical.em (b = a) with e | e
      · exact .inr ⟨_, _, by rw [e]; exact ha⟩
      · exact .inl (hn b e)
    · rcases Classical.em (b = a) with e | e
      · subst e
        rw [ha] at z
        cases z
        exact ⟨at', by rw [List.length_map]; exact le_line (by omega), vs, _, rv, at'⟩
      · rw [hn b e] at z; cases z
    · rcases Classical.em (b = a) with e | e
      · exact e
      · exact absurd (hn b e) z
end
/-- THE END: a law whose run is True at each script is kept -/
theorem walk2 {l : PySem.W.OpenLaw} {k : Nat} {q : Program} {loose : List Str} {XP : (Str → Option Value) → Heap → Prop} {YP : World → Heap → Prop} {d : DefRec} {K : Params → PySem.W.Frag}
    (hn : l.most = some 63) (hdf : d.params.defaults = []) (hr : Room k callerA) (hY : ∀ (w : World) (h : Heap), YP w h → (K w.params).In h)
    (F : ∀ (w : World) (mg : Str → Option Value) (fa : Addr) (h : Heap), (K w.params).In h → h.Ns mainGlobals mg → mg d.name = some (.ref fa) →
      ∀ base : Heap, (K w.params).In base → base.Ns mainGlobals mg → FnR l.prog w (K w.params) mg base (L2.CX l.prog w) k fa (spScript (K w.params))) :
    PySem.W.WalkO q loose XP YP l.row.toRowW d [] (fun f vs => PySem.call f vs) := by
  refine Att.attach_call hn hdf fun w s0 s1 mg mb fa o pm cd doc a vs ns G Y ho hd hcd hmg hobj hints hlen hg => ?_
  have KX := hY w _ Y
  exact called KX G.T.g G.T.b G.T.builtins G.T.nolimit hg hobj hints hlen hr (F w mg fa _ KX G.T.g hmg)
end EV
end T40
section T41
set_option Elab.async false
set_option linter.all false
set_option maxRecDepth 100000
namespace Lw
open PySem PySem.Spec PyProof.Rows L2 EV
def b_law_cell_at : MS :=
  sSeq (sIf (mT (m2 fLt (mVar 1) (mAll kLen (aCons (mVar 0) (aNil))))) (sSeq (sRet (m2 fIdx (mVar 0) (mVar 1))) (sNil)) (sNil)) (sSeq (sRet (mC (.int 0))) (sNil))
def R_law_cell_at : List Vl → Hs → Rs Vl := frame (fnRun 2 2 false (b_law_cell_at))
def b_law_pen : MS :=
  sSeq (sRet (mAll kLstT (aCons (mAll kMax2 (aCons (mC (.int 0)) (aCons (m2 fSub (mVar 0) (m2 fPow (mC (.int 10)) (mC (.int 18)))) (aNil)))) (aCons (m2 fAdd (m2 fMod (mVar 0) (mC (.int 2147483629))) (mC (.int 1))) (aCons (mC (.int 0)) (aNil)))))) (sNil)
def R_law_pen : List Vl → Hs → Rs Vl := fnRun 1 1 true (b_law_pen)
def b_law_draw : MS :=
  sSeq (sIf (mT (m2 fGt (m2 fIdx (mVar 0) (mC (.int 0))) (mC (.int 0)))) (sSeq (sSet 2 (m2 fMod (m2 fIdx (mVar 0) (mC (.int 0))) (mVar 1))) (sSeq (sSub (m2 fDiv (m2 fIdx (mVar 0) (mC (.int 0))) (mVar 1)) (mVar 0) (mC (.int 0))) (sSeq (sRet (mVar 2)) (sNil)))) (sNil)) (sSeq (sSub (m2 fAdd (m2 fIdx (mVar 0) (mC (.int 2))) (mC (.int 1))) (mVar 0) (mC (.int 2))) (sSeq (sSub (m2 fMod (m2 fAdd (m2 fAdd (m2 fMul (m2 fIdx (mVar 0) (mC (.int 1))) (mC (.int 48271))) (m2 fMul (mC (.int 1009)) (m2 fIdx (mVar 0) (mC (.int 2))))) (mC (.int 7))) (mC (.int 2147483647))) (mVar 0) (mC (.int 1))) (sSeq (sSet 3 (m2 fMod (m2 fAdd (m2 fAdd (m2 fMul (m2 fIdx (mVar 0) (mC (.int 1))) (m2 fIdx (mVar 0) (mC (.int 1)))) (m2 fMul (mC (.int 69621)) (m2 fIdx (mVar 0) (mC (.int 1))))) (mC (.int 11))) (mC (.int 2147483629)))) (sSeq (sSet 3 (m2 fMod (m2 fAdd (m2 fMul (mVar 3) (mVar 3)) (m2 fMul (mC (.int 40014)) (mVar 3))) (mC (.int 2147483587)))) (sSeq (sRet (m2 fMod (m2 fDiv (mVar 3) (mC (.int 16))) (mVar 1))) (sNil))))))
def R_law_draw : List Vl → Hs → Rs Vl := frame (fnRun 2 4 false (b_law_draw))
def b_law_twisted : MS :=
  sSeq (sSet 2 (mComp (iRange1 (aCons (mVar 0) (aNil))) (gN 1) (tYesM) (m2 fAdd (m2 fMul (mAll kTupD (aCons (mC (.int 0)) (aNil))) (m2 fSub (mVar 0) (mVar 1))) (m2 fMul (mAll kTupD (aCons (mC (.int 1)) (aNil))) (mVar 1))) [1])) (sSeq (sRet (m2 fAdd (mVar 2) (mComp (iRange1 (aCons (mVar 0) (aNil))) (gN 1) (tYesM) (m2 fAdd (m2 fMul (mAll kTupD (aCons (mC (.int 1)) (aNil))) (m2 fSub (mVar 0) (mVar 1))) (m2 fMul (mAll kTupD (aCons (mC (.int 0)) (aNil))) (mVar 1))) [1]))) (sNil))
def R_law_twisted : List Vl → Hs → Rs Vl := frame (fnRun 1 3 false (b_law_twisted))
def b_law_mirror : MS :=
  sSeq (sSet 1 (mAll kLstD (aCons (mAll kTupD (aCons (mC (.int 0)) (aNil))) (aCons (mAll kTupD (aCons (mC (.int 1)) (aNil))) (aNil))))) (sSeq (sFor (iRange1 (aCons (m2 fSub (mVar 0) (mC (.int 1))) (aNil))) (gN 2) (sSeq (sSet 1 (m2 fAdd (mComp (iAny (mVar 1)) (gN 3) (tYesM) (m2 fAdd (mAll kTupD (aCons (mC (.int 0)) (aNil))) (mVar 3)) [3]) (mComp (iAny (m1 fRevU (mVar 1))) (gN 3) (tYesM) (m2 fAdd (mAll kTupD (aCons (mC (.int 1)) (aNil))) (mVar 3)) [3]))) (sNil))) (sSeq (sRet (mVar 1)) (sNil)))
def R_law_mirror : List Vl → Hs → Rs Vl := frame (fnRun 1 4 false (b_law_mirror))
def b_law_lone : MS :=
  sSeq (sRet (mComp (iRange1 (aCons (mVar 0) (aNil))) (gN 1) (tYesM) (m2 fAdd (m2 fAdd (m2 fMul (mAll kTupD (aCons (mC (.int 0)) (aNil))) (mVar 1)) (mAll kTupD (aCons (mC (.int 1)) (aNil)))) (m2 fMul (mAll kTupD (aCons (mC (.int 0)) (aNil))) (m2 fSub (m2 fSub (mVar 0) (mC (.int 1))) (mVar 1)))) [1])) (sNil)
def R_law_lone : List Vl → Hs → Rs Vl := frame (fnRun 1 2 false (b_law_lone))
def b_law_all : MS :=
  sSeq (sSet 1 (mAll kLstD (aCons (mAll kTupD (aNil)) (aNil)))) (sSeq (sFor (iRange1 (aCons (mVar 0) (aNil))) (gN 2) (sSeq (sSet 3 (mAll kLstT (aNil))) (sSeq (sFor (iAny (mVar 1)) (gN 4) (sSeq (sExpr (mMethL fExtendT (mVar 3) (aCons (mAll kLstD (aCons (m2 fAdd (mVar 4) (mAll kTupD (aCons (mC (.int 0)) (aNil)))) (aCons (m2 fAdd (mVar 4) (mAll kTupD (aCons (mC (.int 1)) (aNil)))) (aNil)))) (aNil)))) (sNil))) (sSeq (sSet 1 (mVar 3)) (sNil))))) (sSeq (sRet (mVar 1)) (sNil)))
def R_law_all : List Vl → Hs → Rs Vl := frame (fnRun 1 5 false (b_law_all))
def b_law_mixed : MS :=
  sSeq (sSet 2 (mAll kListT (aCons (mVar 1) (aNil)))) (sSeq (sRet (mComp (iAny (mVar 1)) (gN 3) (tYesM) (mMethL fPopAt (mVar 2) (aCons (mAll R_law_draw (aCons (mVar 0) (aCons (mAll kLen (aCons (mVar 2) (aNil))) (aNil)))) (aNil))) [3])) (sNil))
def R_law_mixed : List Vl → Hs → Rs Vl := frame (fnRun 2 4 false (b_law_mixed))
def b_law_words : MS :=
  sSeq (sPar 2 3 (aCons (m2 fAdd (mC (.int 1)) (mAll R_law_draw (aCons (mVar 0) (aCons (mVar 1) (aNil))))) (aCons (mAll R_law_draw (aCons (mVar 0) (aCons (mC (.int 6)) (aNil)))) (aNil)))) (sSeq (sIf (mT (m2 (fEqD false) (mVar 3) (mC (.int 0)))) (sSeq (sSet 4 (mAll R_law_twisted (aCons (mVar 2) (aNil)))) (sNil)) (sSeq (sIf (mT (m2 (fEqD false) (mVar 3) (mC (.int 1)))) (sSeq (sSet 4 (mAll R_law_mirror (aCons (mAll kMin2 (aCons (mC (.int 4)) (aCons (mVar 2) (aNil)))) (aNil)))) (sNil)) (sSeq (sIf (mT (m2 (fEqD false) (mVar 3) (mC (.int 2)))) (sSeq (sSet 4 (mAll R_law_lone (aCons (mAll kMax2 (aCons (mC (.int 2)) (aCons (mVar 2) (aNil)))) (aNil)))) (sNil)) (sSeq (sSet 5 (mAll R_law_mixed (aCons (mVar 0) (aCons (mAll R_law_all (aCons (mVar 2) (aNil))) (aNil))))) (sSeq (sSet 4 (mCut (mVar 5) (oNone) (oSome (m2 fAdd (mC (.int 2)) (mAll R_law_draw (aCons (mVar 0) (aCons (m2 fSub (mAll kMin2 (aCons (mC (.int 16)) (aCons (mAll kLen (aCons (mVar 5) (aNil))) (aNil)))) (mC (.int 1))) (aNil)))))))) (sNil)))) (sNil))) (sNil))) (sSeq (sSet 6 (mAll kLen (aCons (m2 fIdx (mVar 4) (mC (.int 0))) (aNil)))) (sSeq (sPar3 8 9 10 (aCons (mAll R_law_mixed (aCons (mVar 0) (aCons (m1 (fun v h => kRange [v] h) (mVar 6)) (aNil)))) (aCons (mComp (iRange1 (aCons (mVar 6) (aNil))) (gN 7) (tYesM) (mAll R_law_draw (aCons (mVar 0) (aCons (mC (.int 2)) (aNil)))) [7]) (aCons (mAll R_law_draw (aCons (mVar 0) (aCons (mC (.int 16)) (aNil)))) (aNil))))) (sSeq (sSet 4 (mComp (iAny (mVar 4)) (gN 11) (tYesM) (mAll kTuple (aCons (mComp (iRange1 (aCons (mVar 6) (aNil))) (gN 7) (tYesM) (m2 fMod (m2 fAdd (m2 fIdx (mVar 11) (m2 fIdx (mVar 8) (mVar 7))) (m2 fIdx (mVar 9) (mVar 7))) (mC (.int 2))) [7]) (aNil))) [11])) (sSeq (sSet 10 (m2 fMod (mVar 10) (mAll kLen (aCons (mVar 4) (aNil))))) (sSeq (sRet (mAll kTuple (aCons (m2 fAdd (mCut (mVar 4) (oSome (mVar 10)) (oNone)) (mCut (mVar 4) (oNone) (oSome (mVar 10)))) (aNil)))) (sNil)))))))
def R_law_words : List Vl → Hs → Rs Vl := frame (fnRun 2 12 false (b_law_words))
def b_read_words : MS :=
  sSeq (sIf (mOrT (mNotT (mT (m1 (fIsi "str") (mVar 0)))) (mNotT (mT (mMethS fEndsW (mVar 0) (aCons (mC (.str "\n")) (aNil)))))) (sSeq (sRet (mAll kTupD (aNil))) (sNil)) (sNil)) (sSeq (sSet 1 (mMethS fSplit (mCut (mVar 0) (oNone) (oSome (m1 fUSub (mC (.int 1))))) (aCons (mC (.str "\n")) (aNil)))) (sSeq (sIf (mNotT (mT (mAll kAll (aCons (mComp2 (iAny (mVar 1)) (gN 2) (tYesM) (iAny (mVar 2)) (gN 3) (tYesM) (m2 (fIn false) (mVar 3) (mAll kTupD (aCons (mC (.str "0")) (aCons (mC (.str "1")) (aNil))))) [2, 3] [3]) (aNil))))) (sSeq (sRet (mAll kTupD (aNil))) (sNil)) (sNil)) (sSeq (sRet (mAll kTuple (aCons (mComp (iAny (mVar 1)) (gN 2) (tYesM) (mAll kTuple (aCons (mComp (iAny (mVar 2)) (gN 3) (tYesM) (mAll kInt2 (aCons (mVar 3) (aNil))) [3]) (aNil))) [2]) (aNil)))) (sNil))))
def R_read_words : List Vl → Hs → Rs Vl := frame (fnRun 1 4 false (b_read_words))
def b_is_between : MS :=
  sSeq (sRet (mAnd (m1 (fIsi "int") (mVar 0)) (mAnd (mNot (m1 (fIsi "bool") (mVar 0))) (m3 fLe fLe (mVar 1) (mVar 0) (mVar 2))))) (sNil)
def R_is_between : List Vl → Hs → Rs Vl := frame (fnRun 3 3 false (b_is_between))
def b_are_between : MS :=
  sSeq (sRet (mAnd (m1 (fIsi "tuple") (mVar 0)) (mAnd (m2 (fEqD false) (mAll kLen (aCons (mVar 0) (aNil))) (mVar 1)) (mAll kAll (aCons (mComp (iAny (mVar 0)) (gN 4) (tYesM) (mAll R_is_between (aCons (mVar 4) (aCons (mVar 2) (aCons (mVar 3) (aNil))))) [4]) (aNil)))))) (sNil)
def R_are_between : List Vl → Hs → Rs Vl := frame (fnRun 4 5 false (b_are_between))
def b_is_word : MS :=
  sSeq (sRet (mAll R_are_between (aCons (mVar 0) (aCons (mVar 1) (aCons (mC (.int 0)) (aCons (mC (.int 1)) (aNil))))))) (sNil)
def R_is_word : List Vl → Hs → Rs Vl := frame (fnRun 2 2 false (b_is_word))
def b_are_words : MS :=
  sSeq (sIf (mNotT (mT (m3 fLe fLe (mC (.int 2)) (mAll kLen (aCons (mVar 0) (aNil))) (mC (.int 16))))) (sSeq (sRet (mC (.bl false))) (sNil)) (sNil)) (sSeq (sSet 1 (m2 fIdx (mVar 0) (mC (.int 0)))) (sSeq (sIf (mOrT (mNotT (mT (m1 (fIsi "tuple") (mVar 1)))) (mNotT (mT (m3 fLe fLe (mC (.int 1)) (mAll kLen (aCons (mVar 1) (aNil))) (mC (.int 5)))))) (sSeq (sRet (mC (.bl false))) (sNil)) (sNil)) (sSeq (sRet (mAnd (mAll kAll (aCons (mComp (iAny (mVar 0)) (gN 2) (tYesM) (mAll R_is_word (aCons (mVar 2) (aCons (mAll kLen (aCons (mVar 1) (aNil))) (aNil)))) [2]) (aNil))) (m2 (fEqD false) (m1 kLenSetT (mVar 0)) (mAll kLen (aCons (mVar 0) (aNil)))))) (sNil))))
def R_are_words : List Vl → Hs → Rs Vl := frame (fnRun 1 3 false (b_are_words))
def b_Code_init : MS :=
  sSeq (sIf (mNotT (mT (mAll R_are_words (aCons (mVar 1) (aNil))))) (sSeq (sRaiseA 1 (aCons (mC (.str "2 to 16 different words of the same length are required")) (aNil))) (sNil)) (sNil)) (sSeq (sFldS 0 0 (mVar 0) (mVar 1)) (sSeq (sFldS 0 1 (mVar 0) (mDctT (iEnumA (aCons (mVar 1) (aNil))) (gU 2 (gsCons (gN 2) (gsCons (gN 3) (gsNil)))) (tYesM) (mVar 3) (mVar 2) [2, 3])) (sSeq (sFldM 0 2 (mVar 0)) (sNil))))
def R_Code_init : List Vl → Hs → Rs Vl := frame (fnRunStar 1 4 false (b_Code_init))
def b_Code_read : MS :=
  sSeq (sSet 2 (mAll R_read_words (aCons (mVar 1) (aNil)))) (sSeq (sIf (mNotT (mT (mAll R_are_words (aCons (mVar 2) (aNil))))) (sSeq (sRaiseA 7 (aCons (mC (.str "the text of a code is required")) (aNil))) (sNil)) (sNil)) (sSeq (sRet (mAll (kMake 0 false R_Code_init) (aStar (mVar 2) aNil))) (sNil)))
def R_Code_read : List Vl → Hs → Rs Vl := frame (fnRun 2 3 false (b_Code_read))
def b_law_made : MS :=
  sSeq (sRet (mAll (kCm 0 R_Code_read) (aCons (mMethS fJoin (mC (.str "")) (aCons (mComp (iAny (mVar 0)) (gN 1) (tYesM) (m2 fAdd (mMethS fJoin (mC (.str "")) (aCons (mComp (iAny (mVar 1)) (gN 2) (tYesM) (mAll kStr (aCons (mVar 2) (aNil))) [2]) (aNil))) (mC (.str "\n"))) [1]) (aNil))) (aNil)))) (sNil)
def R_law_made : List Vl → Hs → Rs Vl := frame (fnRun 1 3 false (b_law_made))
def b_law_turned_words : MS :=
  sSeq (sRet (m2 fAdd (mCut (mVar 0) (oSome (mVar 1)) (oNone)) (mCut (mVar 0) (oNone) (oSome (mVar 1))))) (sNil)
def R_law_turned_words : List Vl → Hs → Rs Vl := frame (fnRun 2 2 false (b_law_turned_words))
def b_check_code : MS :=
  sSeq (sIf (mNotT (mT (m1 (fIsO 0) (mVar 0)))) (sSeq (sRaiseA 2 (aCons (mC (.str "a code is required")) (aNil))) (sNil)) (sNil)) (sNil)
def R_check_code : List Vl → Hs → Rs Vl := frame (fnRun 1 1 false (b_check_code))
def b_Code_words : MS :=
  sSeq (sRet (mFld 0 0 (mVar 0))) (sNil)
def R_Code_words : List Vl → Hs → Rs Vl := frame (fnRun 1 1 false (b_Code_words))
def b_check_value : MS :=
  sSeq (sIf (mNotT (mT (mAll R_is_between (aCons (mVar 1) (aCons (mC (.int 0)) (aCons (m2 fSub (mAll kLen (aCons (mProp 0 R_Code_words (mVar 0)) (aNil))) (mC (.int 1))) (aNil))))))) (sSeq (sRaiseA 3 (aCons (mC (.str "a value of the code is required")) (aNil))) (sNil)) (sNil)) (sNil)
def R_check_value : List Vl → Hs → Rs Vl := frame (fnRun 2 2 false (b_check_value))
def b_turned : MS :=
  sSeq (sExpr (mAll R_check_code (aCons (mVar 0) (aNil)))) (sSeq (sExpr (mAll R_check_value (aCons (mVar 0) (aCons (mVar 1) (aNil))))) (sSeq (sSet 2 (m2 fAdd (mCut (mProp 0 R_Code_words (mVar 0)) (oSome (mVar 1)) (oNone)) (mCut (mProp 0 R_Code_words (mVar 0)) (oNone) (oSome (mVar 1))))) (sSeq (sRet (mAll (kMake 0 false R_Code_init) (aStar (mVar 2) aNil))) (sNil))))
def R_turned : List Vl → Hs → Rs Vl := frame (fnRun 2 3 false (b_turned))
def b_law_same : MS :=
  sSeq (sRet (m2 (fEqD false) (mAll kRepr (aCons (mVar 0) (aNil))) (mAll kRepr (aCons (mVar 1) (aNil))))) (sNil)
def R_law_same : List Vl → Hs → Rs Vl := frame (fnRun 2 2 false (b_law_same))
def b_Code_neg : MS :=
  sSeq (sSet 1 (m2 fAdd (mCut (mFld 0 0 (mVar 0)) (oNone) (oSome (mC (.int 1)))) (m1 fRev0 (mFld 0 0 (mVar 0))))) (sSeq (sRet (mAll (kMake 0 false R_Code_init) (aStar (mVar 1) aNil))) (sNil))
def R_Code_neg : List Vl → Hs → Rs Vl := frame (fnRun 1 2 false (b_Code_neg))
def b_law_back_words : MS :=
  sSeq (sRet (m2 fAdd (mCut (mVar 0) (oNone) (oSome (mC (.int 1)))) (m1 fRevU (mCut (mVar 0) (oSome (mC (.int 1))) (oNone))))) (sNil)
def R_law_back_words : List Vl → Hs → Rs Vl := frame (fnRun 1 1 false (b_law_back_words))
def b_law_renamed_words : MS :=
  sSeq (sSet 2 (mAll kLstT (aNil))) (sSeq (sFor (iAny (mVar 0)) (gN 3) (sSeq (sSet 4 (m2 fRepLT (mAll kLstD (aCons (mC (.int 0)) (aNil))) (mAll kLen (aCons (mVar 3) (aNil))))) (sSeq (sFor (iRange1 (aCons (mAll kLen (aCons (mVar 3) (aNil))) (aNil))) (gN 5) (sSeq (sSub (m2 fIdx (mVar 3) (mVar 5)) (mVar 4) (m2 fIdx (mVar 1) (mVar 5))) (sNil))) (sSeq (sExpr (mMethL fAppend (mVar 2) (aCons (mAll kTuple (aCons (mVar 4) (aNil))) (aNil)))) (sNil))))) (sSeq (sRet (mAll kTuple (aCons (mVar 2) (aNil)))) (sNil)))
def R_law_renamed_words : List Vl → Hs → Rs Vl := frame (fnRun 2 6 false (b_law_renamed_words))
def b_law_flipped_words : MS :=
  sSeq (sRet (mAll kTuple (aCons (mComp (iAny (mVar 0)) (gN 2) (tYesM) (mAll kTuple (aCons (mComp (iRange1 (aCons (mAll kLen (aCons (mVar 2) (aNil))) (aNil))) (gN 3) (tYesM) (mIf (mT (m2 (fIn false) (mVar 3) (mVar 1))) (m2 fSub (mC (.int 1)) (m2 fIdx (mVar 2) (mVar 3))) (m2 fIdx (mVar 2) (mVar 3))) [3]) (aNil))) [2]) (aNil)))) (sNil)
def R_law_flipped_words : List Vl → Hs → Rs Vl := frame (fnRun 2 4 false (b_law_flipped_words))
def b_Code_bits : MS :=
  sSeq (sRet (mAll kLen (aCons (m2 fIdx (mFld 0 0 (mVar 0)) (mC (.int 0))) (aNil)))) (sNil)
def R_Code_bits : List Vl → Hs → Rs Vl := frame (fnRun 1 1 false (b_Code_bits))
def b_is_whole : MS :=
  sSeq (sRet (mAnd (m1 (fIsi "int") (mVar 0)) (mNot (m1 (fIsi "bool") (mVar 0))))) (sNil)
def R_is_whole : List Vl → Hs → Rs Vl := frame (fnRun 1 1 false (b_is_whole))
def b_is_order : MS :=
  sSeq (sIf (mOrT (mNotT (mT (m1 (fIsi "tuple") (mVar 0)))) (mNotT (mT (mAll kAll (aCons (mComp (iAny (mVar 0)) (gN 2) (tYesM) (mAll R_is_whole (aCons (mVar 2) (aNil))) [2]) (aNil)))))) (sSeq (sRet (mC (.bl false))) (sNil)) (sNil)) (sSeq (sRet (m2 (fEqD false) (mAll (kSortY 64) (aCons (mVar 0) (aNil))) (m1 (fun v h => kRange [v] h) (mVar 1)))) (sNil))
def R_is_order : List Vl → Hs → Rs Vl := frame (fnRun 2 3 false (b_is_order))
def b_moved : MS :=
  sSeq (sSet 2 (mAll kListT (aCons (mVar 0) (aNil)))) (sSeq (sFor (iZip2 (aCons (mVar 0) (aCons (mVar 1) (aNil)))) (gU 2 (gsCons (gN 3) (gsCons (gN 4) (gsNil)))) (sSeq (sSub (mVar 3) (mVar 2) (mVar 4)) (sNil))) (sSeq (sRet (mAll kTuple (aCons (mVar 2) (aNil)))) (sNil)))
def R_moved : List Vl → Hs → Rs Vl := frame (fnRun 2 5 false (b_moved))
def b_renamed : MS :=
  sSeq (sExpr (mAll R_check_code (aCons (mVar 0) (aNil)))) (sSeq (sIf (mNotT (mT (mAll R_is_order (aCons (mVar 1) (aCons (mProp 0 R_Code_bits (mVar 0)) (aNil)))))) (sSeq (sRaiseA 5 (aCons (mC (.str "a tuple of all places is required")) (aNil))) (sNil)) (sNil)) (sSeq (sSet 3 (mComp (iAny (mProp 0 R_Code_words (mVar 0))) (gN 2) (tYesM) (mAll R_moved (aCons (mVar 2) (aCons (mVar 1) (aNil)))) [2])) (sSeq (sRet (mAll (kMake 0 false R_Code_init) (aStar (mVar 3) aNil))) (sNil))))
def R_renamed : List Vl → Hs → Rs Vl := frame (fnRun 2 4 false (b_renamed))
def b_are_places : MS :=
  sSeq (sIf (mOrT (mNotT (mT (m1 (fIsi "tuple") (mVar 0)))) (mNotT (mT (mAll kAll (aCons (mComp (iAny (mVar 0)) (gN 2) (tYesM) (mAll R_is_between (aCons (mVar 2) (aCons (mC (.int 0)) (aCons (m2 fSub (mVar 1) (mC (.int 1))) (aNil))))) [2]) (aNil)))))) (sSeq (sRet (mC (.bl false))) (sNil)) (sNil)) (sSeq (sRet (mAll kAll (aCons (mComp (iZip2 (aCons (mVar 0) (aCons (mCut (mVar 0) (oSome (mC (.int 1))) (oNone)) (aNil)))) (gU 2 (gsCons (gN 3) (gsCons (gN 4) (gsNil)))) (tYesM) (m2 fLt (mVar 3) (mVar 4)) [3, 4]) (aNil)))) (sNil))
def R_are_places : List Vl → Hs → Rs Vl := frame (fnRun 2 5 false (b_are_places))
def b_exchanged : MS :=
  sSeq (sRet (mAll kTuple (aCons (mComp (iEnumA (aCons (mVar 0) (aNil))) (gU 2 (gsCons (gN 2) (gsCons (gN 3) (gsNil)))) (tYesM) (mIf (mT (m2 (fIn false) (mVar 2) (mVar 1))) (m2 fSub (mC (.int 1)) (mVar 3)) (mVar 3)) [2, 3]) (aNil)))) (sNil)
def R_exchanged : List Vl → Hs → Rs Vl := frame (fnRun 2 4 false (b_exchanged))
def b_flipped : MS :=
  sSeq (sExpr (mAll R_check_code (aCons (mVar 0) (aNil)))) (sSeq (sIf (mNotT (mT (mAll R_are_places (aCons (mVar 1) (aCons (mProp 0 R_Code_bits (mVar 0)) (aNil)))))) (sSeq (sRaiseA 6 (aCons (mC (.str "an ascending tuple of places is required")) (aNil))) (sNil)) (sNil)) (sSeq (sSet 3 (mComp (iAny (mProp 0 R_Code_words (mVar 0))) (gN 2) (tYesM) (mAll R_exchanged (aCons (mVar 2) (aCons (mVar 1) (aNil)))) [2])) (sSeq (sRet (mAll (kMake 0 false R_Code_init) (aStar (mVar 3) aNil))) (sNil))))
def R_flipped : List Vl → Hs → Rs Vl := frame (fnRun 2 4 false (b_flipped))
def b_law_right_k03 : MS :=
  sSeq (sPar 2 3 (aCons (mAll R_law_made (aCons (mVar 1) (aNil))) (aCons (mAll kLen (aCons (m2 fIdx (mVar 1) (mC (.int 0))) (aNil))) (aNil)))) (sSeq (sFor (iRange1 (aCons (mAll kLen (aCons (mVar 1) (aNil))) (aNil))) (gN 4) (sSeq (sSet 5 (mAll R_law_turned_words (aCons (mVar 1) (aCons (mVar 4) (aNil))))) (sSeq (sIf (mNotT (mT (mAll R_law_same (aCons (mAll kLstD (aCons (mProp 0 R_Code_words (mAll R_turned (aCons (mVar 2) (aCons (mVar 4) (aNil))))) (aCons (mProp 0 R_Code_words (mAll R_turned (aCons (mVar 2) (aCons (mVar 4) (aNil))))) (aNil)))) (aCons (mAll kLstD (aCons (mVar 5) (aCons (mVar 5) (aNil)))) (aNil)))))) (sSeq (sRet (mC (.bl false))) (sNil)) (sNil)) (sNil)))) (sSeq (sSet 6 (m1 (fNegO 0 R_Code_neg) (mVar 2))) (sSeq (sIf (mNotT (mT (mAll R_law_same (aCons (mAll kLstD (aCons (mProp 0 R_Code_words (mVar 6)) (aCons (mProp 0 R_Code_words (m1 (fNegO 0 R_Code_neg) (mVar 6))) (aNil)))) (aCons (mAll kLstD (aCons (mAll R_law_back_words (aCons (mVar 1) (aNil))) (aCons (mVar 1) (aNil)))) (aNil)))))) (sSeq (sRet (mC (.bl false))) (sNil)) (sNil)) (sSeq (sFor (iRange1 (aCons (mC (.int 6)) (aNil))) (gN 7) (sSeq (sSet 8 (mAll kTuple (aCons (mAll R_law_mixed (aCons (mVar 0) (aCons (m1 (fun v h => kRange [v] h) (mVar 3)) (aNil)))) (aNil)))) (sSeq (sSet 10 (mAll kTuple (aCons (mComp (iRange1 (aCons (mVar 3) (aNil))) (gN 9) (mT (m2 (fEqD false) (mAll R_law_draw (aCons (mVar 0) (aCons (mC (.int 2)) (aNil)))) (mC (.int 0)))) (mVar 9) [9]) (aNil)))) (sSeq (sSet 5 (mAll kLstD (aCons (mAll R_law_renamed_words (aCons (mVar 1) (aCons (mVar 8) (aNil)))) (aCons (mAll R_law_flipped_words (aCons (mVar 1) (aCons (mVar 10) (aNil)))) (aNil))))) (sSeq (sFor (iRange1 (aCons (mC (.int 2)) (aNil))) (gN 11) (sSeq (sIf (mNotT (mT (mAll R_law_same (aCons (mAll kLstD (aCons (mProp 0 R_Code_words (mAll R_renamed (aCons (mVar 2) (aCons (mVar 8) (aNil))))) (aCons (mProp 0 R_Code_words (mAll R_flipped (aCons (mVar 2) (aCons (mVar 10) (aNil))))) (aNil)))) (aCons (mVar 5) (aNil)))))) (sSeq (sRet (mC (.bl false))) (sNil)) (sNil)) (sNil))) (sNil)))))) (sSeq (sRet (mAll R_law_same (aCons (mProp 0 R_Code_words (mVar 2)) (aCons (mVar 1) (aNil))))) (sNil))))))
def R_law_right_k03 : List Vl → Hs → Rs Vl := frame (fnRun 2 12 false (b_law_right_k03))
def b_law_k03 : MS :=
  sSeq (sFor (iRange1 (aCons (mAll kMax2 (aCons (mC (.int 1)) (aCons (mAll kMin2 (aCons (mAll kLen (aCons (mVar 0) (aNil))) (aCons (mC (.int 3)) (aNil)))) (aNil)))) (aNil))) (gN 1) (sSeq (sSet 2 (mAll R_law_pen (aCons (mAll R_law_cell_at (aCons (mVar 0) (aCons (mVar 1) (aNil)))) (aNil)))) (sSeq (sFor (iRange1 (aCons (mC (.int 6)) (aNil))) (gN 3) (sSeq (sIf (mNotT (mT (mAll R_law_right_k03 (aCons (mVar 2) (aCons (mAll R_law_words (aCons (mVar 2) (aCons (mC (.int 5)) (aNil)))) (aNil)))))) (sSeq (sRet (mC (.bl false))) (sNil)) (sNil)) (sNil))) (sNil)))) (sSeq (sRet (mC (.bl true))) (sNil))
def R_law_k03 : List Vl → Hs → Rs Vl := frame (fnRun 1 4 false (b_law_k03))
def b_law_rest : MS :=
  sSeq (sSet 4 (mAll R_law_renamed_words (aCons (mAll R_law_flipped_words (aCons (mVar 0) (aCons (mVar 2) (aNil)))) (aCons (mVar 1) (aNil))))) (sSeq (sRet (mIf (mT (m2 (fEqD false) (mVar 3) (m1 fUSub (mC (.int 1))))) (mAll R_law_back_words (aCons (mVar 4) (aNil))) (mVar 4))) (sNil))
def R_law_rest : List Vl → Hs → Rs Vl := frame (fnRun 4 5 false (b_law_rest))
def b_law_near_k05 : MS :=
  sSeq (sPar 2 3 (aCons (mAll kLen (aCons (m2 fIdx (mVar 1) (mC (.int 0))) (aNil))) (aCons (mAll R_law_draw (aCons (mVar 0) (aCons (mAll kLen (aCons (mVar 1) (aNil))) (aNil)))) (aNil)))) (sSeq (sPar 4 5 (aCons (mAll kTuple (aCons (mAll R_law_mixed (aCons (mVar 0) (aCons (m1 (fun v h => kRange [v] h) (mVar 2)) (aNil)))) (aNil))) (aCons (m2 fIdx (mAll kLstD (aCons (m1 fUSub (mC (.int 1))) (aCons (mC (.int 1)) (aNil)))) (mAll R_law_draw (aCons (mVar 0) (aCons (mC (.int 2)) (aNil))))) (aNil)))) (sSeq (sSet 7 (mAll kTuple (aCons (mComp (iRange1 (aCons (mVar 2) (aNil))) (gN 6) (mT (m2 (fEqD false) (mAll R_law_draw (aCons (mVar 0) (aCons (mC (.int 2)) (aNil)))) (mC (.int 0)))) (mVar 6) [6]) (aNil)))) (sSeq (sSet 8 (mAll R_law_turned_words (aCons (mAll R_law_rest (aCons (mVar 1) (aCons (mVar 4) (aCons (mVar 7) (aCons (mVar 5) (aNil)))))) (aCons (mVar 3) (aNil))))) (sSeq (sIf (mT (m2 fGt (mAll R_law_draw (aCons (mVar 0) (aCons (mC (.int 3)) (aNil)))) (mC (.int 0)))) (sSeq (sRet (mVar 8)) (sNil)) (sNil)) (sSeq (sRet (m2 fAdd (m2 fAdd (mCut (mVar 8) (oSome (mC (.int 1))) (oSome (mC (.int 2)))) (mCut (mVar 8) (oNone) (oSome (mC (.int 1))))) (mCut (mVar 8) (oSome (mC (.int 2))) (oNone)))) (sNil))))))
def R_law_near_k05 : List Vl → Hs → Rs Vl := frame (fnRun 2 9 false (b_law_near_k05))
def b_Code_getitem : MS :=
  sSeq (sIf (mNotT (mT (mAll R_is_word (aCons (mVar 1) (aCons (mProp 0 R_Code_bits (mVar 0)) (aNil)))))) (sSeq (sRaiseA 4 (aCons (mC (.str "a word of the code's length is required")) (aNil))) (sNil)) (sNil)) (sSeq (sRet (mDGet2 (mFld 0 1 (mVar 0)) (mVar 1) (m1 fUSub (mC (.int 1))))) (sNil))
def R_Code_getitem : List Vl → Hs → Rs Vl := frame (fnRun 2 2 false (b_Code_getitem))
def b_Code_len : MS :=
  sSeq (sRet (mAll kLen (aCons (mFld 0 0 (mVar 0)) (aNil)))) (sNil)
def R_Code_len : List Vl → Hs → Rs Vl := frame (fnRun 1 1 false (b_Code_len))
def b_law_orders : MS :=
  sSeq (sSet 1 (mAll kLstD (aCons (mAll kTupD (aNil)) (aNil)))) (sSeq (sFor (iRange1 (aCons (mVar 0) (aNil))) (gN 2) (sSeq (sSet 3 (mAll kLstT (aNil))) (sSeq (sFor (iAny (mVar 1)) (gN 4) (sSeq (sExpr (mMethL fExtendT (mVar 3) (aCons (mComp (iRange1 (aCons (mVar 0) (aNil))) (gN 5) (mT (m2 (fIn true) (mVar 5) (mVar 4))) (m2 fAdd (mVar 4) (mAll kTupD (aCons (mVar 5) (aNil)))) [5]) (aNil)))) (sNil))) (sSeq (sSet 1 (mVar 3)) (sNil))))) (sSeq (sRet (mVar 1)) (sNil)))
def R_law_orders : List Vl → Hs → Rs Vl := frame (fnRun 1 6 false (b_law_orders))
def b_law_due_k05 : MS :=
  sSeq (sIf (mOrT (mT (m2 (fEqD true) (mAll kLen (aCons (mVar 0) (aNil))) (mAll (kLenO 0 R_Code_len) (aCons (mVar 1) (aNil))))) (mT (m2 (fEqD true) (mAll kLen (aCons (m2 fIdx (mVar 0) (mC (.int 0))) (aNil))) (mAll kLen (aCons (m2 (fSubO 0 R_Code_getitem) (mVar 1) (mC (.int 0))) (aNil)))))) (sSeq (sRet (mC .non)) (sNil)) (sNil)) (sSeq (sFor (iRange1 (aCons (mAll kLen (aCons (mVar 0) (aNil))) (aNil))) (gN 2) (sSeq (sFor (iAny (mAll kTupD (aCons (m1 fUSub (mC (.int 1))) (aCons (mC (.int 1)) (aNil))))) (gN 3) (sSeq (sFor (iAny (mAll R_law_orders (aCons (mAll kLen (aCons (m2 fIdx (mVar 0) (mC (.int 0))) (aNil))) (aNil)))) (gN 4) (sSeq (sSet 5 (mAll R_law_turned_words (aCons (mAll R_law_rest (aCons (mVar 0) (aCons (mVar 4) (aCons (mAll kTupD (aNil)) (aCons (mVar 3) (aNil)))))) (aCons (mVar 2) (aNil))))) (sSeq (sSet 7 (mAll kTuple (aCons (mComp (iRange1 (aCons (mAll kLen (aCons (mVar 4) (aNil))) (aNil))) (gN 6) (mT (m2 (fEqD true) (m2 fIdx (m2 fIdx (mVar 5) (mC (.int 0))) (m2 fIdx (mVar 4) (mVar 6))) (m2 fIdx (m2 (fSubO 0 R_Code_getitem) (mVar 1) (mC (.int 0))) (m2 fIdx (mVar 4) (mVar 6))))) (mVar 6) [6]) (aNil)))) (sSeq (sIf (mT (m2 (fEqD false) (mAll R_law_turned_words (aCons (mAll R_law_rest (aCons (mVar 0) (aCons (mVar 4) (aCons (mVar 7) (aCons (mVar 3) (aNil)))))) (aCons (mVar 2) (aNil)))) (mVar 1))) (sSeq (sRet (mAll kTupD (aCons (mVar 2) (aCons (mVar 3) (aCons (mVar 4) (aCons (mVar 7) (aNil))))))) (sNil)) (sNil)) (sNil))))) (sNil))) (sNil))) (sSeq (sRet (mC .non)) (sNil)))
def R_law_due_k05 : List Vl → Hs → Rs Vl := frame (fnRun 2 8 false (b_law_due_k05))
def b_column : MS :=
  sSeq (sSet 2 (m2 fIdx (m2 fIdx (mProp 0 R_Code_words (mVar 0)) (mC (.int 0))) (mVar 1))) (sSeq (sRet (mComp (iAny (mProp 0 R_Code_words (mVar 0))) (gN 3) (tYesM) (m2 fXor (m2 fIdx (mVar 3) (mVar 1)) (mVar 2)) [3])) (sNil))
def R_column : List Vl → Hs → Rs Vl := frame (fnRun 2 4 false (b_column))
def b_fitting_order : MS :=
  sSeq (sSet 2 (mAll kLstT (aNil))) (sSeq (sFor (iRange1 (aCons (mProp 0 R_Code_bits (mVar 0)) (aNil))) (gN 3) (sSeq (sSet 5 (mComp (iRange1 (aCons (mProp 0 R_Code_bits (mVar 1)) (aNil))) (gN 4) (mAndT (mT (m2 (fIn true) (mVar 4) (mVar 2))) (mT (m2 (fEqD false) (mAll R_column (aCons (mVar 1) (aCons (mVar 4) (aNil)))) (mAll R_column (aCons (mVar 0) (aCons (mVar 3) (aNil))))))) (mVar 4) [4])) (sSeq (sIf (mNotT (mTV (mVar 5))) (sSeq (sRet (mC .non)) (sNil)) (sNil)) (sSeq (sExpr (mMethL fAppend (mVar 2) (aCons (m2 fIdx (mVar 5) (mC (.int 0))) (aNil)))) (sNil))))) (sSeq (sRet (mAll kTuple (aCons (mVar 2) (aNil)))) (sNil)))
def R_fitting_order : List Vl → Hs → Rs Vl := frame (fnRun 2 6 false (b_fitting_order))
def b_Code_call : MS :=
  sSeq (sExpr (mAll R_check_value (aCons (mVar 0) (aCons (mVar 1) (aNil))))) (sSeq (sRet (m2 fIdx (mFld 0 0 (mVar 0)) (mVar 1))) (sNil))
def R_Code_call : List Vl → Hs → Rs Vl := frame (fnRun 2 2 false (b_Code_call))
def b_fitting_places : MS :=
  sSeq (sPar 3 4 (aCons (mCallO 0 R_Code_call (mVar 0) (aCons (mC (.int 0)) (aNil))) (aCons (mCallO 0 R_Code_call (mVar 1) (aCons (mC (.int 0)) (aNil))) (aNil)))) (sSeq (sRet (mAll kTuple (aCons (mComp (iEnumA (aCons (mVar 2) (aNil))) (gU 2 (gsCons (gN 5) (gsCons (gN 6) (gsNil)))) (mT (m2 (fEqD true) (m2 fIdx (mVar 3) (mVar 5)) (m2 (fSubO 0 R_Code_getitem) (mVar 4) (mVar 6)))) (mVar 5) [5, 6]) (aNil)))) (sNil))
def R_fitting_places : List Vl → Hs → Rs Vl := frame (fnRun 3 7 false (b_fitting_places))
def b_alike : MS :=
  sSeq (sExpr (mAll R_check_code (aCons (mVar 0) (aNil)))) (sSeq (sExpr (mAll R_check_code (aCons (mVar 1) (aNil)))) (sSeq (sIf (mOrT (mT (m2 (fEqD true) (mAll (kLenO 0 R_Code_len) (aCons (mVar 0) (aNil))) (mAll (kLenO 0 R_Code_len) (aCons (mVar 1) (aNil))))) (mT (m2 (fEqD true) (mProp 0 R_Code_bits (mVar 0)) (mProp 0 R_Code_bits (mVar 1))))) (sSeq (sRet (mC .non)) (sNil)) (sNil)) (sSeq (sFor (iRange1 (aCons (mAll (kLenO 0 R_Code_len) (aCons (mVar 0) (aNil))) (aNil))) (gN 2) (sSeq (sSet 3 (mAll R_turned (aCons (mVar 1) (aCons (m2 fMod (m1 fUSub (mVar 2)) (mAll (kLenO 0 R_Code_len) (aCons (mVar 0) (aNil)))) (aNil))))) (sSeq (sFor (iAny (mAll kTupD (aCons (m1 fUSub (mC (.int 1))) (aCons (mC (.int 1)) (aNil))))) (gN 4) (sSeq (sSet 5 (mIf (mT (m2 fLt (mVar 4) (mC (.int 0)))) (m1 (fNegO 0 R_Code_neg) (mVar 3)) (mVar 3))) (sSeq (sSet 6 (mAll R_fitting_order (aCons (mVar 0) (aCons (mVar 5) (aNil))))) (sSeq (sIf (mT (m1 (fIsN true) (mVar 6))) (sSeq (sRet (mAll kTupD (aCons (mVar 2) (aCons (mVar 4) (aCons (mVar 6) (aCons (mAll R_fitting_places (aCons (mVar 0) (aCons (mVar 5) (aCons (mVar 6) (aNil))))) (aNil))))))) (sNil)) (sNil)) (sNil))))) (sNil)))) (sSeq (sRet (mC .non)) (sNil)))))
def R_alike : List Vl → Hs → Rs Vl := frame (fnRun 2 7 false (b_alike))
def b_law_k05 : MS :=
  sSeq (sFor (iRange1 (aCons (mAll kMax2 (aCons (mC (.int 1)) (aCons (mAll kMin2 (aCons (mAll kLen (aCons (mVar 0) (aNil))) (aCons (mC (.int 2)) (aNil)))) (aNil)))) (aNil))) (gN 1) (sSeq (sSet 2 (mAll R_law_pen (aCons (mAll R_law_cell_at (aCons (mVar 0) (aCons (mVar 1) (aNil)))) (aNil)))) (sSeq (sFor (iRange1 (aCons (mC (.int 5)) (aNil))) (gN 3) (sSeq (sSet 4 (mCut (mAll R_law_words (aCons (mVar 2) (aCons (m2 fIdx (mAll kLstD (aCons (mC (.int 3)) (aCons (mC (.int 4)) (aCons (mC (.int 3)) (aCons (mC (.int 5)) (aCons (mC (.int 2)) (aNil))))))) (mVar 3)) (aNil)))) (oNone) (oSome (m2 fIdx (mAll kLstD (aCons (mC (.int 8)) (aCons (mC (.int 9)) (aCons (mC (.int 8)) (aCons (mC (.int 6)) (aCons (mC (.int 8)) (aNil))))))) (mVar 3))))) (sSeq (sFor (iAny (mAll kLstD (aCons (mVar 4) (aCons (mAll R_law_near_k05 (aCons (mVar 2) (aCons (mVar 4) (aNil)))) (aCons (mAll R_law_near_k05 (aCons (mVar 2) (aCons (mVar 4) (aNil)))) (aCons (mAll R_law_words (aCons (mVar 2) (aCons (mC (.int 3)) (aNil)))) (aNil))))))) (gN 5) (sSeq (sPar3 6 7 8 (aCons (mAll R_law_due_k05 (aCons (mVar 4) (aCons (mVar 5) (aNil)))) (aCons (mAll R_law_made (aCons (mVar 4) (aNil))) (aCons (mAll R_law_made (aCons (mVar 5) (aNil))) (aNil))))) (sSeq (sIf (mNotT (mT (mAll R_law_same (aCons (mAll kLstD (aCons (mAll R_alike (aCons (mVar 7) (aCons (mVar 8) (aNil)))) (aCons (mAll R_alike (aCons (mVar 7) (aCons (mVar 8) (aNil)))) (aNil)))) (aCons (mAll kLstD (aCons (mVar 6) (aCons (mVar 6) (aNil)))) (aNil)))))) (sSeq (sRet (mC (.bl false))) (sNil)) (sNil)) (sNil)))) (sNil)))) (sNil)))) (sSeq (sRet (mC (.bl true))) (sNil))
def R_law_k05 : List Vl → Hs → Rs Vl := frame (fnRun 1 9 false (b_law_k05))
def b_law_some : MS :=
  sSeq (sSet 2 (mProp 0 R_Code_bits (mVar 1))) (sSeq (sSet 4 (mAll kTuple (aCons (mComp (iRange1 (aCons (mVar 2) (aNil))) (gN 3) (mT (m2 (fEqD false) (mAll R_law_draw (aCons (mVar 0) (aCons (mC (.int 2)) (aNil)))) (mC (.int 0)))) (mVar 3) [3]) (aNil)))) (sSeq (sSet 5 (mAll kTuple (aCons (mAll R_law_mixed (aCons (mVar 0) (aCons (m1 (fun v h => kRange [v] h) (mVar 2)) (aNil)))) (aNil)))) (sSeq (sRet (mAll kTupD (aCons (mAll R_law_draw (aCons (mVar 0) (aCons (mAll (kLenO 0 R_Code_len) (aCons (mVar 1) (aNil))) (aNil)))) (aCons (m2 fIdx (mAll kLstD (aCons (m1 fUSub (mC (.int 1))) (aCons (mC (.int 1)) (aNil)))) (mAll R_law_draw (aCons (mVar 0) (aCons (mC (.int 2)) (aNil))))) (aCons (mVar 5) (aCons (mVar 4) (aNil))))))) (sNil))))
def R_law_some : List Vl → Hs → Rs Vl := frame (fnRun 2 6 false (b_law_some))
def b_law_by : MS :=
  sSeq (sAsg (gU 4 (gsCons (gN 2) (gsCons (gN 3) (gsCons (gN 4) (gsCons (gN 5) (gsNil)))))) (mVar 1)) (sSeq (sSet 6 (mAll R_renamed (aCons (mAll R_flipped (aCons (mVar 0) (aCons (mVar 5) (aNil)))) (aCons (mVar 4) (aNil))))) (sSeq (sRet (mAll R_turned (aCons (mIf (mT (m2 (fEqD false) (mVar 3) (m1 fUSub (mC (.int 1))))) (m1 (fNegO 0 R_Code_neg) (mVar 6)) (mVar 6)) (aCons (mVar 2) (aNil))))) (sNil)))
def R_law_by : List Vl → Hs → Rs Vl := frame (fnRun 2 7 false (b_law_by))
def b_check_span : MS :=
  sSeq (sIf (mNotT (mT (mAll R_is_between (aCons (mVar 0) (aCons (mC (.int 0)) (aCons (mVar 1) (aNil))))))) (sSeq (sRaiseA 8 (aCons (mJs [mC (.str "a span from 0 to "), m1 fFmt (mVar 1), mC (.str " is required")] Str.empty) (aNil))) (sNil)) (sNil)) (sNil)
def R_check_span : List Vl → Hs → Rs Vl := frame (fnRun 2 2 false (b_check_span))
def b_numbers_of : MS :=
  sSeq (sSet 1 (mAll kLstT (aNil))) (sSeq (sFor (iAny (mProp 0 R_Code_words (mVar 0))) (gN 2) (sSeq (sSet 3 (mC (.int 0))) (sSeq (sFor (iAny (mVar 2)) (gN 4) (sSeq (sSet 3 (m2 fAdd (m2 fMul (mC (.int 2)) (mVar 3)) (mVar 4))) (sNil))) (sSeq (sExpr (mMethL fAppend (mVar 1) (aCons (mVar 3) (aNil)))) (sNil))))) (sSeq (sRet (mVar 1)) (sNil)))
def R_numbers_of : List Vl → Hs → Rs Vl := frame (fnRun 1 5 false (b_numbers_of))
def b_gaps_from : MS :=
  sSeq (sRet (mComp (iRange1 (aCons (mVar 0) (aNil))) (gN 2) (tYesM) (mAll kMax2 (aCons (mC (.int 0)) (aCons (mAll kMin2 (aCons (m2 fSub (mVar 2) (mVar 1)) (aCons (m2 fSub (mVar 0) (mVar 2)) (aNil)))) (aNil)))) [2])) (sNil)
def R_gaps_from : List Vl → Hs → Rs Vl := frame (fnRun 2 3 false (b_gaps_from))
def b_fixed_and_free : MS :=
  sSeq (sAsg2 (gN 3) (gN 4) (m2 fIdx (mVar 0) (mVar 1))) (sSeq (sFor (iRange2 (aCons (mC (.int 1)) (aCons (m2 fAdd (mVar 2) (mC (.int 1))) (aNil)))) (gN 5) (sSeq (sSet 6 (m2 fIdx (mVar 0) (m2 fMod (m2 fAdd (mVar 1) (mVar 5)) (mAll kLen (aCons (mVar 0) (aNil)))))) (sSeq (sSet 3 (m2 fAnd (mVar 3) (mVar 6))) (sSeq (sSet 4 (m2 fOr (mVar 4) (mVar 6))) (sNil))))) (sSeq (sRet (mAll kTupD (aCons (mVar 3) (aCons (m2 fXor (mVar 3) (mVar 4)) (aNil))))) (sNil)))
def R_fixed_and_free : List Vl → Hs → Rs Vl := frame (fnRun 3 7 false (b_fixed_and_free))
def b_seen_values : MS :=
  sSeq (sAsg (gU 2 (gsCons (gN 3) (gsCons (gN 4) (gsNil)))) (mAll R_fixed_and_free (aCons (mVar 0) (aCons (mVar 1) (aCons (mVar 2) (aNil)))))) (sSeq (sSet 5 (m2 fOr (mVar 3) (mVar 4))) (sSeq (sRet (mComp (iEnumA (aCons (mVar 0) (aNil))) (gU 2 (gsCons (gN 6) (gsCons (gN 7) (gsNil)))) (mT (m2 (fEqD false) (m2 fOr (mVar 7) (mVar 4)) (mVar 5))) (mVar 6) [6, 7])) (sNil)))
def R_seen_values : List Vl → Hs → Rs Vl := frame (fnRun 3 8 false (b_seen_values))
def b_all_off : MS :=
  sSeq (sSet 2 (mAll R_numbers_of (aCons (mVar 0) (aNil)))) (sSeq (sSet 3 (mAll R_gaps_from (aCons (mAll (kLenO 0 R_Code_len) (aCons (mVar 0) (aNil))) (aCons (mVar 1) (aNil))))) (sSeq (sRet (mComp2 (iRange1 (aCons (mAll kLen (aCons (mVar 2) (aNil))) (aNil))) (gN 4) (tYesM) (iAny (mAll R_seen_values (aCons (mVar 2) (aCons (mVar 4) (aCons (mVar 1) (aNil)))))) (gN 5) (mT (m2 fGt (m2 fIdx (mVar 3) (m2 fSub (mVar 5) (mVar 4))) (mC (.int 0)))) (mAll kTupD (aCons (m2 fIdx (mVar 3) (m2 fSub (mVar 5) (mVar 4))) (aCons (mVar 4) (aCons (mVar 5) (aNil))))) [4, 5] [5])) (sNil)))
def R_all_off : List Vl → Hs → Rs Vl := frame (fnRun 2 6 false (b_all_off))
def b_most_off : MS :=
  sSeq (sRet (m2 (kMmDf true) (mComp (iAny (mAll R_all_off (aCons (mVar 0) (aCons (mVar 1) (aNil))))) (gU 3 (gsCons (gN 2) (gsCons (gN 3) (gsCons (gN 3) (gsNil))))) (tYesM) (mVar 2) [2, 3]) (mC (.int 0)))) (sNil)
def R_most_off : List Vl → Hs → Rs Vl := frame (fnRun 2 4 false (b_most_off))
def b_off : MS :=
  sSeq (sExpr (mAll R_check_code (aCons (mVar 0) (aNil)))) (sSeq (sExpr (mAll R_check_span (aCons (mVar 1) (aCons (mC (.int 4)) (aNil))))) (sSeq (sRet (mAll R_most_off (aCons (mVar 0) (aCons (mVar 1) (aNil))))) (sNil)))
def R_off : List Vl → Hs → Rs Vl := frame (fnRun 2 2 false (b_off))
def b_holes_at : MS :=
  sSeq (sAsg (gU 2 (gsCons (gN 3) (gsCons (gN 4) (gsNil)))) (mAll R_fixed_and_free (aCons (mVar 0) (aCons (mVar 1) (aCons (mVar 2) (aNil)))))) (sSeq (sRet (m2 fSub (mIdxG [1, 2, 2, 4, 2, 4, 4, 8, 2, 4, 4, 8, 4, 8, 8, 16, 2, 4, 4, 8, 4, 8, 8, 16, 4, 8, 8, 16, 8, 16, 16, 32] (mVar 4)) (mAll kLen (aCons (mAll R_seen_values (aCons (mVar 0) (aCons (mVar 1) (aCons (mVar 2) (aNil))))) (aNil))))) (sNil))
def R_holes_at : List Vl → Hs → Rs Vl := frame (fnRun 3 5 false (b_holes_at))
def b_holes : MS :=
  sSeq (sExpr (mAll R_check_code (aCons (mVar 0) (aNil)))) (sSeq (sExpr (mAll R_check_span (aCons (mVar 1) (aCons (mC (.int 4)) (aNil))))) (sSeq (sSet 2 (mAll R_numbers_of (aCons (mVar 0) (aNil)))) (sSeq (sRet (mAll kSum (aCons (mComp (iRange1 (aCons (mAll kLen (aCons (mVar 2) (aNil))) (aNil))) (gN 3) (tYesM) (mAll R_holes_at (aCons (mVar 2) (aCons (mVar 3) (aCons (mVar 1) (aNil))))) [3]) (aNil)))) (sNil))))
def R_holes : List Vl → Hs → Rs Vl := frame (fnRun 2 4 false (b_holes))
def b_tolerance : MS :=
  sSeq (sExpr (mAll R_check_code (aCons (mVar 0) (aNil)))) (sSeq (sFor (iRange2 (aCons (mC (.int 1)) (aCons (m2 fAdd (mC (.int 4)) (mC (.int 1))) (aNil)))) (gN 1) (sSeq (sIf (mT (m2 fGt (mAll R_most_off (aCons (mVar 0) (aCons (mVar 1) (aNil)))) (mC (.int 0)))) (sSeq (sRet (m2 fSub (mVar 1) (mC (.int 1)))) (sNil)) (sNil)) (sNil))) (sSeq (sRet (mC (.int 4))) (sNil)))
def R_tolerance : List Vl → Hs → Rs Vl := frame (fnRun 1 2 false (b_tolerance))
def b_window_of : MS :=
  sSeq (sRet (mCut (m2 fMul (mProp 0 R_Code_words (mVar 0)) (m2 fAdd (mVar 2) (mC (.int 1)))) (oSome (mVar 1)) (oSome (m2 fAdd (m2 fAdd (mVar 1) (mVar 2)) (mC (.int 1)))))) (sNil)
def R_window_of : List Vl → Hs → Rs Vl := frame (fnRun 3 3 false (b_window_of))
def b_changes : MS :=
  sSeq (sExpr (mAll R_check_code (aCons (mVar 0) (aNil)))) (sSeq (sExpr (mAll R_check_value (aCons (mVar 0) (aCons (mVar 1) (aNil))))) (sSeq (sAsg (gU 2 (gsCons (gN 2) (gsCons (gN 3) (gsNil)))) (mAll R_window_of (aCons (mVar 0) (aCons (mVar 1) (aCons (mC (.int 1)) (aNil)))))) (sSeq (sRet (mAll kTuple (aCons (mComp (iRange1 (aCons (mProp 0 R_Code_bits (mVar 0)) (aNil))) (gN 4) (mT (m2 (fEqD true) (m2 fIdx (mVar 2) (mVar 4)) (m2 fIdx (mVar 3) (mVar 4)))) (mVar 4) [4]) (aNil)))) (sNil))))
def R_changes : List Vl → Hs → Rs Vl := frame (fnRun 2 5 false (b_changes))
def b_is_single : MS :=
  sSeq (sExpr (mAll R_check_code (aCons (mVar 0) (aNil)))) (sSeq (sRet (mAll kAll (aCons (mComp (iRange1 (aCons (mAll (kLenO 0 R_Code_len) (aCons (mVar 0) (aNil))) (aNil))) (gN 1) (tYesM) (m2 (fEqD false) (mAll kLen (aCons (mAll R_changes (aCons (mVar 0) (aCons (mVar 1) (aNil)))) (aNil))) (mC (.int 1))) [1]) (aNil)))) (sNil))
def R_is_single : List Vl → Hs → Rs Vl := frame (fnRun 1 2 false (b_is_single))
def b_law_told : MS :=
  sSeq (sSet 1 (mAll kLstD (aCons (mC (.int 0)) (aCons (mC (.int 1)) (aCons (mC (.int 2)) (aCons (mC (.int 3)) (aCons (mC (.int 4)) (aNil)))))))) (sSeq (sSet 3 (m2 fAdd (mComp (iAny (mVar 1)) (gN 2) (tYesM) (mAll R_off (aCons (mVar 0) (aCons (mVar 2) (aNil)))) [2]) (mComp (iAny (mVar 1)) (gN 2) (tYesM) (mAll R_holes (aCons (mVar 0) (aCons (mVar 2) (aNil)))) [2]))) (sSeq (sRet (m2 fAdd (mVar 3) (mAll kLstD (aCons (mAll R_tolerance (aCons (mVar 0) (aNil))) (aCons (mAll R_is_single (aCons (mVar 0) (aNil))) (aCons (mAll (kLenO 0 R_Code_len) (aCons (mVar 0) (aNil))) (aCons (mProp 0 R_Code_bits (mVar 0)) (aNil)))))))) (sNil)))
def R_law_told : List Vl → Hs → Rs Vl := frame (fnRun 1 4 false (b_law_told))
def b_law_right_k06 : MS :=
  sSeq (sSet 2 (mAll R_law_by (aCons (mVar 1) (aCons (mAll R_law_some (aCons (mVar 0) (aCons (mVar 1) (aNil)))) (aNil))))) (sSeq (sSet 3 (mAll R_law_by (aCons (mVar 2) (aCons (mAll R_law_some (aCons (mVar 0) (aCons (mVar 2) (aNil)))) (aNil))))) (sSeq (sFor (iAny (mAll kLstD (aCons (mAll kTupD (aCons (mVar 1) (aCons (mVar 2) (aNil)))) (aCons (mAll kTupD (aCons (mVar 2) (aCons (mVar 1) (aNil)))) (aCons (mAll kTupD (aCons (mVar 1) (aCons (mVar 3) (aNil)))) (aCons (mAll kTupD (aCons (mVar 3) (aCons (mVar 1) (aNil)))) (aCons (mAll kTupD (aCons (mVar 1) (aCons (mVar 1) (aNil)))) (aNil)))))))) (gU 2 (gsCons (gN 4) (gsCons (gN 5) (gsNil)))) (sSeq (sSet 6 (mAll R_alike (aCons (mVar 4) (aCons (mVar 5) (aNil))))) (sSeq (sIf (mOrT (mT (m1 (fIsN false) (mVar 6))) (mT (m2 (fEqD true) (mAll R_law_by (aCons (mVar 4) (aCons (mVar 6) (aNil)))) (mVar 5)))) (sSeq (sRet (mC (.bl false))) (sNil)) (sNil)) (sNil)))) (sSeq (sIf (mT (m2 (fEqD true) (m2 fIdx (mAll R_alike (aCons (mVar 1) (aCons (mVar 1) (aNil)))) (mC (.int 0))) (mC (.int 0)))) (sSeq (sRet (mC (.bl false))) (sNil)) (sNil)) (sSeq (sRet (m3 (fEqD false) (fEqD false) (mAll R_law_told (aCons (mVar 1) (aNil))) (mAll R_law_told (aCons (mVar 2) (aNil))) (mAll R_law_told (aCons (mVar 3) (aNil))))) (sNil)))))
def R_law_right_k06 : List Vl → Hs → Rs Vl := frame (fnRun 2 7 false (b_law_right_k06))
def b_law_k06 : MS :=
  sSeq (sFor (iRange1 (aCons (mAll kMax2 (aCons (mC (.int 1)) (aCons (mAll kMin2 (aCons (mAll kLen (aCons (mVar 0) (aNil))) (aCons (mC (.int 2)) (aNil)))) (aNil)))) (aNil))) (gN 1) (sSeq (sSet 2 (mAll R_law_pen (aCons (mAll R_law_cell_at (aCons (mVar 0) (aCons (mVar 1) (aNil)))) (aNil)))) (sSeq (sFor (iRange1 (aCons (mC (.int 4)) (aNil))) (gN 3) (sSeq (sIf (mNotT (mT (mAll R_law_right_k06 (aCons (mVar 2) (aCons (mAll R_law_made (aCons (mCut (mAll R_law_words (aCons (mVar 2) (aCons (m2 fIdx (mAll kLstD (aCons (mC (.int 4)) (aCons (mC (.int 3)) (aCons (mC (.int 5)) (aCons (mC (.int 4)) (aNil)))))) (mVar 3)) (aNil)))) (oNone) (oSome (m2 fIdx (mAll kLstD (aCons (mC (.int 16)) (aCons (mC (.int 8)) (aCons (mC (.int 7)) (aCons (mC (.int 9)) (aNil)))))) (mVar 3)))) (aNil))) (aNil)))))) (sSeq (sRet (mC (.bl false))) (sNil)) (sNil)) (sNil))) (sNil)))) (sSeq (sRet (mC (.bl true))) (sNil))
def R_law_k06 : List Vl → Hs → Rs Vl := frame (fnRun 1 4 false (b_law_k06))
def b_law_by_hand_right : MS :=
  sSeq (sPar 0 1 (aCons (mAll (kMake 0 false R_Code_init) (aCons (mAll kTupD (aCons (mC (.int 0)) (aCons (mC (.int 0)) (aNil)))) (aCons (mAll kTupD (aCons (mC (.int 0)) (aCons (mC (.int 1)) (aNil)))) (aCons (mAll kTupD (aCons (mC (.int 1)) (aCons (mC (.int 1)) (aNil)))) (aNil))))) (aCons (mAll (kMake 0 false R_Code_init) (aCons (mAll kTupD (aCons (mC (.int 0)) (aCons (mC (.int 0)) (aNil)))) (aCons (mAll kTupD (aCons (mC (.int 0)) (aCons (mC (.int 1)) (aNil)))) (aCons (mAll kTupD (aCons (mC (.int 1)) (aCons (mC (.int 1)) (aNil)))) (aCons (mAll kTupD (aCons (mC (.int 1)) (aCons (mC (.int 0)) (aNil)))) (aNil)))))) (aNil)))) (sSeq (sRet (mAll R_law_same (aCons (mAll kLstD (aCons (mAll R_is_single (aCons (mVar 0) (aNil))) (aCons (mAll R_is_single (aCons (mVar 1) (aNil))) (aCons (mAll R_changes (aCons (mVar 0) (aCons (mC (.int 2)) (aNil)))) (aNil))))) (aCons (mAll kLstD (aCons (mC (.bl false)) (aCons (mC (.bl true)) (aCons (mAll kTupD (aCons (mC (.int 0)) (aCons (mC (.int 1)) (aNil)))) (aNil))))) (aNil))))) (sNil))
def R_law_by_hand_right : List Vl → Hs → Rs Vl := frame (fnRun 0 2 false (b_law_by_hand_right))
def b_mixtures : MS :=
  sSeq (sSet 1 (mAll kLstD (aCons (mAll kTupD (aNil)) (aNil)))) (sSeq (sFor (iZipS (mVar 0)) (gN 2) (sSeq (sIf (mT (m2 (fIn true) (mC (.int 0)) (mVar 2))) (sSeq (sSet 1 (mComp (iAny (mVar 1)) (gN 3) (tYesM) (mAll kTupD (aStar (mVar 3) (aCons (mC (.int 1)) (aNil)))) [3])) (sNil)) (sSeq (sIf (mT (m2 (fIn true) (mC (.int 1)) (mVar 2))) (sSeq (sSet 1 (mComp (iAny (mVar 1)) (gN 3) (tYesM) (mAll kTupD (aStar (mVar 3) (aCons (mC (.int 0)) (aNil)))) [3])) (sNil)) (sSeq (sSet 1 (mComp2 (iAny (mVar 1)) (gN 3) (tYesM) (iAny (mAll kTupD (aCons (mC (.int 0)) (aCons (mC (.int 1)) (aNil))))) (gN 4) (tYesM) (mAll kTupD (aStar (mVar 3) (aCons (mVar 4) (aNil)))) [3, 4] [4])) (sNil))) (sNil))) (sNil))) (sSeq (sRet (mAll kTuple (aCons (mVar 1) (aNil)))) (sNil)))
def R_mixtures : List Vl → Hs → Rs Vl := frame (fnRun 1 5 false (b_mixtures))
def me_seen : ME := mQ (mAll R_mixtures (aCons (mAll R_window_of (aCons (mVar 0) (aCons (mVar 1) (aCons (mVar 2) (aNil))))) (aNil)))
def b_seen : MS := sMemo 0 2 0 1 2 me_seen
def R_seen : List Vl → Hs → Rs Vl := frame (fnRun 3 3 false (b_seen))
def b_mixes : MS :=
  sSeq (sExpr (mAll R_check_code (aCons (mVar 0) (aNil)))) (sSeq (sExpr (mAll R_check_value (aCons (mVar 0) (aCons (mVar 1) (aNil))))) (sSeq (sRet (mAll R_seen (aCons (mVar 0) (aCons (mVar 1) (aCons (mC (.int 1)) (aNil)))))) (sNil)))
def R_mixes : List Vl → Hs → Rs Vl := frame (fnRun 2 2 false (b_mixes))
def b_law_right_k08 : MS :=
  sSeq (sPar3 1 2 3 (aCons (mAll R_law_made (aCons (mVar 0) (aNil))) (aCons (mAll kLen (aCons (m2 fIdx (mVar 0) (mC (.int 0))) (aNil))) (aCons (mC (.bl true)) (aNil))))) (sSeq (sFor (iRange1 (aCons (mAll kLen (aCons (mVar 0) (aNil))) (aNil))) (gN 4) (sSeq (sPar 5 6 (aCons (m2 fIdx (mVar 0) (mVar 4)) (aCons (m2 fIdx (mVar 0) (m2 fMod (m2 fAdd (mVar 4) (mC (.int 1))) (mAll kLen (aCons (mVar 0) (aNil))))) (aNil)))) (sSeq (sSet 8 (mAll kTuple (aCons (mComp (iRange1 (aCons (mVar 2) (aNil))) (gN 7) (mT (m2 (fEqD true) (m2 fIdx (mVar 5) (mVar 7)) (m2 fIdx (mVar 6) (mVar 7)))) (mVar 7) [7]) (aNil)))) (sSeq (sSet 10 (mComp (iAny (mAll R_law_all (aCons (mVar 2) (aNil)))) (gN 9) (mT (m2 (fEqD false) (mComp (iRange1 (aCons (mVar 2) (aNil))) (gN 7) (mT (m2 (fIn true) (m2 fIdx (mVar 9) (mVar 7)) (mAll kTupD (aCons (m2 fIdx (mVar 5) (mVar 7)) (aCons (m2 fIdx (mVar 6) (mVar 7)) (aNil)))))) (mC (.int 1)) [7]) (mAll kLstD (aNil)))) (mVar 9) [9])) (sSeq (sFor (iRange1 (aCons (mC (.int 2)) (aNil))) (gN 11) (sSeq (sIf (mNotT (mT (mAll R_law_same (aCons (mAll kLstD (aCons (mAll R_changes (aCons (mVar 1) (aCons (mVar 4) (aNil)))) (aCons (mAll R_mixes (aCons (mVar 1) (aCons (mVar 4) (aNil)))) (aNil)))) (aCons (mAll kLstD (aCons (mVar 8) (aCons (mAll kTuple (aCons (mVar 10) (aNil))) (aNil)))) (aNil)))))) (sSeq (sRet (mC (.bl false))) (sNil)) (sNil)) (sNil))) (sSeq (sSet 3 (mAnd (mVar 3) (m2 (fEqD false) (mAll kLen (aCons (mVar 8) (aNil))) (mC (.int 1))))) (sNil))))))) (sSeq (sRet (mAll R_law_same (aCons (mAll kLstD (aCons (mAll R_is_single (aCons (mVar 1) (aNil))) (aCons (mAll R_is_single (aCons (mVar 1) (aNil))) (aCons (mProp 0 R_Code_words (mVar 1)) (aNil))))) (aCons (mAll kLstD (aCons (mVar 3) (aCons (mVar 3) (aCons (mVar 0) (aNil))))) (aNil))))) (sNil)))
def R_law_right_k08 : List Vl → Hs → Rs Vl := frame (fnRun 1 12 false (b_law_right_k08))
def b_law_k08 : MS :=
  sSeq (sIf (mNotT (mT (mAll R_law_by_hand_right aNil))) (sSeq (sRet (mC (.bl false))) (sNil)) (sNil)) (sSeq (sFor (iRange1 (aCons (mAll kMax2 (aCons (mC (.int 1)) (aCons (mAll kMin2 (aCons (mAll kLen (aCons (mVar 0) (aNil))) (aCons (mC (.int 3)) (aNil)))) (aNil)))) (aNil))) (gN 1) (sSeq (sSet 2 (mAll R_law_pen (aCons (mAll R_law_cell_at (aCons (mVar 0) (aCons (mVar 1) (aNil)))) (aNil)))) (sSeq (sFor (iRange1 (aCons (mC (.int 8)) (aNil))) (gN 3) (sSeq (sIf (mNotT (mT (mAll R_law_right_k08 (aCons (mAll R_law_words (aCons (mVar 2) (aCons (mC (.int 5)) (aNil)))) (aNil))))) (sSeq (sRet (mC (.bl false))) (sNil)) (sNil)) (sNil))) (sNil)))) (sSeq (sRet (mC (.bl true))) (sNil)))
def R_law_k08 : List Vl → Hs → Rs Vl := frame (fnRun 1 4 false (b_law_k08))
def b_law_window : MS :=
  sSeq (sRet (mComp (iRange1 (aCons (m2 fAdd (mVar 2) (mC (.int 1))) (aNil))) (gN 3) (tYesM) (m2 fMod (m2 fAdd (mVar 1) (mVar 3)) (mAll kLen (aCons (mVar 0) (aNil)))) [3])) (sNil)
def R_law_window : List Vl → Hs → Rs Vl := frame (fnRun 3 4 false (b_law_window))
def b_law_readings : MS :=
  sSeq (sSet 4 (mComp (iAny (mAll R_law_window (aCons (mVar 0) (aCons (mVar 1) (aCons (mVar 2) (aNil)))))) (gN 3) (tYesM) (m2 fIdx (mVar 0) (mVar 3)) [3])) (sSeq (sSet 5 (mAll kLstT (aNil))) (sSeq (sFor (iAny (mAll R_law_all (aCons (mAll kLen (aCons (m2 fIdx (mVar 0) (mC (.int 0))) (aNil))) (aNil)))) (gN 6) (sSeq (sIf (mT (m2 (fEqD false) (mComp (iRange1 (aCons (mAll kLen (aCons (mVar 6) (aNil))) (aNil))) (gN 7) (mT (m2 (fIn true) (m2 fIdx (mVar 6) (mVar 7)) (mComp (iAny (mVar 4)) (gN 8) (tYesM) (m2 (fSubO 0 R_Code_getitem) (mVar 8) (mVar 7)) [8]))) (mC (.int 1)) [7]) (mAll kLstD (aNil)))) (sSeq (sExpr (mMethL fAppend (mVar 5) (aCons (mVar 6) (aNil)))) (sNil)) (sNil)) (sNil))) (sSeq (sRet (mVar 5)) (sNil))))
def R_law_readings : List Vl → Hs → Rs Vl := frame (fnRun 3 9 false (b_law_readings))
def b_readings : MS :=
  sSeq (sExpr (mAll R_check_code (aCons (mVar 0) (aNil)))) (sSeq (sExpr (mAll R_check_value (aCons (mVar 0) (aCons (mVar 1) (aNil))))) (sSeq (sExpr (mAll R_check_span (aCons (mVar 2) (aCons (mC (.int 4)) (aNil))))) (sSeq (sRet (mAll R_seen (aCons (mVar 0) (aCons (mVar 1) (aCons (mVar 2) (aNil)))))) (sNil))))
def R_readings : List Vl → Hs → Rs Vl := frame (fnRun 3 3 false (b_readings))
def b_law_k09 : MS :=
  sSeq (sFor (iRange1 (aCons (mAll kMax2 (aCons (mC (.int 1)) (aCons (mAll kMin2 (aCons (mAll kLen (aCons (mVar 0) (aNil))) (aCons (mC (.int 3)) (aNil)))) (aNil)))) (aNil))) (gN 1) (sSeq (sSet 2 (mAll R_law_pen (aCons (mAll R_law_cell_at (aCons (mVar 0) (aCons (mVar 1) (aNil)))) (aNil)))) (sSeq (sFor (iRange1 (aCons (mC (.int 4)) (aNil))) (gN 3) (sSeq (sSet 4 (mAll R_law_words (aCons (mVar 2) (aCons (mC (.int 5)) (aNil))))) (sSeq (sSet 5 (mAll R_law_made (aCons (mVar 4) (aNil)))) (sSeq (sFor (iRange1 (aCons (mAll kLen (aCons (mVar 4) (aNil))) (aNil))) (gN 6) (sSeq (sFor (iRange1 (aCons (mC (.int 5)) (aNil))) (gN 7) (sSeq (sSet 8 (mAll kTuple (aCons (mAll R_law_readings (aCons (mVar 4) (aCons (mVar 6) (aCons (mVar 7) (aNil))))) (aNil)))) (sSeq (sIf (mNotT (mT (mAll R_law_same (aCons (mAll kLstD (aCons (mAll R_readings (aCons (mVar 5) (aCons (mVar 6) (aCons (mVar 7) (aNil))))) (aCons (mAll R_readings (aCons (mVar 5) (aCons (mVar 6) (aCons (mVar 7) (aNil))))) (aNil)))) (aCons (mAll kLstD (aCons (mVar 8) (aCons (mVar 8) (aNil)))) (aNil)))))) (sSeq (sRet (mC (.bl false))) (sNil)) (sNil)) (sNil)))) (sNil))) (sNil))))) (sNil)))) (sSeq (sRet (mC (.bl true))) (sNil))
def R_law_k09 : List Vl → Hs → Rs Vl := frame (fnRun 1 9 false (b_law_k09))
def b_law_offs : MS :=
  sSeq (sPar 2 3 (aCons (mAll kLstT (aNil)) (aCons (mAll kLen (aCons (mVar 0) (aNil))) (aNil)))) (sSeq (sFor (iRange1 (aCons (mVar 3) (aNil))) (gN 4) (sSeq (sFor (iAny (mAll R_law_readings (aCons (mVar 0) (aCons (mVar 4) (aCons (mVar 1) (aNil)))))) (gN 5) (sSeq (sSet 6 (m1 fUSub (mC (.int 1)))) (sSeq (sIf (mT (m2 (fIn false) (mVar 5) (mVar 0))) (sSeq (sNo) (sSeq (sSet 6 (mAll kMinL (aCons (mComp (iAny (mVar 8)) (gN 9) (tYesM) (mAll kMin2 (aCons (mVar 9) (aCons (m2 fSub (mVar 3) (mVar 9)) (aNil)))) [9]) (aNil)))) (sNil))) (sNil)) (sSeq (sExpr (mMethL fAppend (mVar 2) (aCons (mAll kTupD (aCons (mVar 4) (aCons (mVar 5) (aCons (mVar 6) (aNil))))) (aNil)))) (sNil))))) (sNil))) (sSeq (sRet (mVar 2)) (sNil)))
def R_law_offs : List Vl → Hs → Rs Vl := frame (fnRun 2 10 false (b_law_offs))
def b_law_due_k10 : MS :=
  sSeq (sSet 4 (mAll kMaxL (aCons (mComp (iAny (mVar 0)) (gU 3 (gsCons (gN 1) (gsCons (gN 2) (gsCons (gN 3) (gsNil))))) (tYesM) (mVar 3) [1, 2, 3]) (aNil)))) (sSeq (sSet 5 (m2 fIdx (mComp (iAny (mVar 0)) (gU 3 (gsCons (gN 1) (gsCons (gN 2) (gsCons (gN 3) (gsNil))))) (mT (m2 (fEqD false) (mVar 3) (mVar 4))) (mAll kTupD (aCons (mVar 1) (aCons (mVar 2) (aNil)))) [1, 2, 3]) (mC (.int 0)))) (sSeq (sRet (mAll kLstD (aCons (mVar 4) (aCons (mIf (mT (m2 (fEqD false) (mVar 4) (mC (.int 0)))) (mC .non) (mVar 5)) (aCons (mAll kLen (aCons (mComp (iAny (mVar 0)) (gU 3 (gsCons (gN 1) (gsCons (gN 2) (gsCons (gN 3) (gsNil))))) (mT (m2 (fEqD false) (mVar 3) (m1 fUSub (mC (.int 1))))) (mC (.int 1)) [1, 2, 3]) (aNil))) (aNil)))))) (sNil)))
def R_law_due_k10 : List Vl → Hs → Rs Vl := frame (fnRun 1 6 false (b_law_due_k10))
def b_far_off : MS :=
  sSeq (sExpr (mAll R_check_code (aCons (mVar 0) (aNil)))) (sSeq (sExpr (mAll R_check_span (aCons (mVar 1) (aCons (mC (.int 4)) (aNil))))) (sSeq (sSet 2 (mAll R_all_off (aCons (mVar 0) (aCons (mVar 1) (aNil))))) (sSeq (sSet 5 (m2 (kMmDf true) (mComp (iAny (mVar 2)) (gU 3 (gsCons (gN 3) (gsCons (gN 4) (gsCons (gN 4) (gsNil))))) (tYesM) (mVar 3) [3, 4]) (mC (.int 0)))) (sSeq (sRet (m2 (kMmDf false) (mComp (iAny (mVar 2)) (gU 3 (gsCons (gN 3) (gsCons (gN 6) (gsCons (gN 7) (gsNil))))) (mT (m2 (fEqD false) (mVar 3) (mVar 5))) (mAll kTupD (aCons (mVar 6) (aCons (m2 fIdx (mProp 0 R_Code_words (mVar 0)) (mVar 7)) (aNil)))) [3, 6, 7]) (mC .non))) (sNil)))))
def R_far_off : List Vl → Hs → Rs Vl := frame (fnRun 2 8 false (b_far_off))
def b_law_k10 : MS :=
  sSeq (sFor (iRange1 (aCons (mAll kMax2 (aCons (mC (.int 1)) (aCons (mAll kMin2 (aCons (mAll kLen (aCons (mVar 0) (aNil))) (aCons (mC (.int 3)) (aNil)))) (aNil)))) (aNil))) (gN 1) (sSeq (sSet 2 (mAll R_law_pen (aCons (mAll R_law_cell_at (aCons (mVar 0) (aCons (mVar 1) (aNil)))) (aNil)))) (sSeq (sFor (iRange1 (aCons (mC (.int 3)) (aNil))) (gN 3) (sSeq (sSet 4 (mAll R_law_words (aCons (mVar 2) (aCons (mC (.int 5)) (aNil))))) (sSeq (sPar 5 6 (aCons (mAll R_law_made (aCons (mVar 4) (aNil))) (aCons (mAll kLstT (aNil)) (aNil)))) (sSeq (sFor (iRange1 (aCons (mC (.int 5)) (aNil))) (gN 7) (sSeq (sSet 8 (mAll R_law_due_k10 (aCons (mAll R_law_offs (aCons (mVar 4) (aCons (mVar 7) (aNil)))) (aNil)))) (sSeq (sExpr (mMethL fAppend (mVar 6) (aCons (m2 fIdx (mVar 8) (mC (.int 0))) (aNil)))) (sSeq (sFor (iRange1 (aCons (mC (.int 2)) (aNil))) (gN 9) (sSeq (sIf (mNotT (mT (mAll R_law_same (aCons (mAll kLstD (aCons (mAll R_off (aCons (mVar 5) (aCons (mVar 7) (aNil)))) (aCons (mAll R_far_off (aCons (mVar 5) (aCons (mVar 7) (aNil)))) (aCons (mAll R_holes (aCons (mVar 5) (aCons (mVar 7) (aNil)))) (aNil))))) (aCons (mVar 8) (aNil)))))) (sSeq (sRet (mC (.bl false))) (sNil)) (sNil)) (sNil))) (sNil))))) (sSeq (sSet 10 (mComp (iRange1 (aCons (mC (.int 5)) (aNil))) (gN 7) (mT (m2 (fEqD false) (mCut (mVar 6) (oNone) (oSome (m2 fAdd (mVar 7) (mC (.int 1))))) (m2 fMul (mAll kLstD (aCons (mC (.int 0)) (aNil))) (m2 fAdd (mVar 7) (mC (.int 1)))))) (mVar 7) [7])) (sSeq (sIf (mNotT (mT (mAll R_law_same (aCons (mAll kLstD (aCons (mAll R_tolerance (aCons (mVar 5) (aNil))) (aCons (mAll R_tolerance (aCons (mVar 5) (aNil))) (aCons (mProp 0 R_Code_words (mVar 5)) (aNil))))) (aCons (mAll kLstD (aCons (m2 fIdx (mVar 10) (m1 fUSub (mC (.int 1)))) (aCons (m2 fIdx (mVar 10) (m1 fUSub (mC (.int 1)))) (aCons (mVar 4) (aNil))))) (aNil)))))) (sSeq (sRet (mC (.bl false))) (sNil)) (sNil)) (sNil))))))) (sNil)))) (sSeq (sRet (mC (.bl true))) (sNil))
def R_law_k10 : List Vl → Hs → Rs Vl := frame (fnRun 1 11 false (b_law_k10))
def b_law_pick : MS :=
  sSeq (sRet (m2 fIdx (mVar 1) (mAll R_law_draw (aCons (mVar 0) (aCons (mAll kLen (aCons (mVar 1) (aNil))) (aNil)))))) (sNil)
def R_law_pick : List Vl → Hs → Rs Vl := frame (fnRun 2 2 false (b_law_pick))
def b_law_odd : MS :=
  sSeq (sNo) (sSeq (sSet 1 (m2 fAdd (mVar 1) (mAll kLstD (aCons (mAll kTupD (aCons (mC (.int 0)) (aCons (mC (.int 1)) (aNil)))) (aCons (mAll kTupD (aCons (mC (.int 1)) (aCons (mC (.int 0)) (aNil)))) (aCons (mAll kLstD (aCons (mC (.int 0)) (aCons (mC (.int 1)) (aNil)))) (aCons (mAll kTupD (aCons (mC (.int 0)) (aCons (mC (.bl true)) (aNil)))) (aCons (mAll kTupD (aCons (mC (.int 0)) (aCons (mC .non) (aNil)))) (aCons (mAll kTupD (aCons (mAll kTupD (aCons (mC (.int 0)) (aNil))) (aCons (mAll kTupD (aCons (mC (.int 1)) (aNil))) (aNil)))) (aCons (mAll kTupD (aCons (mC (.int 0)) (aCons (mC (.int 0)) (aCons (mC (.int 1)) (aNil))))) (aCons (mAll kTupD (aCons (m1 fUSub (mC (.int 1))) (aNil))) (aCons (mAll kTupD (aCons (mC (.str "0")) (aNil))) (aCons (mAll kTupD (aCons (mC (.int 1)) (aCons (mC (.int 2)) (aNil)))) (aNil)))))))))))))) (sSeq (sSet 1 (m2 fAdd (mVar 1) (mAll kLstD (aCons (mAll kTupD (aCons (mC (.int 0)) (aCons (mAll kTupD (aCons (mC (.int 0)) (aCons (mC (.int 1)) (aNil)))) (aNil)))) (aNil))))) (sSeq (sRet (m2 fIdx (mVar 1) (mAll R_law_draw (aCons (mVar 0) (aCons (mAll kLen (aCons (mVar 1) (aNil))) (aNil)))))) (sNil))))
def R_law_odd : List Vl → Hs → Rs Vl := frame (fnRun 1 2 false (b_law_odd))
def b_law_bent (G : List Vl → Hs → Rs Vl) : MS :=
  sSeq (sIf (mOrT (mNotT (mT (m1 (fIsi "tuple") (mVar 1)))) (mOrT (mT (m2 (fEqD false) (mVar 1) (mAll kTupD (aNil)))) (mT (m2 (fEqD false) (mVar 2) (mC (.int 0)))))) (sSeq (sRet (mAll R_law_odd (aCons (mVar 0) (aNil)))) (sNil)) (sNil)) (sSeq (sPar 3 4 (aCons (mAll R_law_draw (aCons (mVar 0) (aCons (mAll kLen (aCons (mVar 1) (aNil))) (aNil)))) (aCons (mAll R_law_draw (aCons (mVar 0) (aCons (mC (.int 7)) (aNil)))) (aNil)))) (sSeq (sIf (mT (m2 (fEqD false) (mVar 4) (mC (.int 0)))) (sSeq (sRet (m2 fAdd (mCut (mVar 1) (oNone) (oSome (mVar 3))) (mCut (mVar 1) (oSome (m2 fAdd (mVar 3) (mC (.int 1)))) (oNone)))) (sNil)) (sNil)) (sSeq (sIf (mT (m2 (fEqD false) (mVar 4) (mC (.int 1)))) (sSeq (sRet (m2 fAdd (m2 fAdd (mCut (mVar 1) (oNone) (oSome (mVar 3))) (mCut (mVar 1) (oSome (mVar 3)) (oSome (m2 fAdd (mVar 3) (mC (.int 1)))))) (mCut (mVar 1) (oSome (mVar 3)) (oNone)))) (sNil)) (sNil)) (sSeq (sIf (mT (m2 (fEqD false) (mVar 4) (mC (.int 2)))) (sSeq (sRet (m2 fIdx (mAll kLstD (aCons (mAll kList (aCons (mVar 1) (aNil))) (aCons (m1 fRevU (mVar 1)) (aNil)))) (mAll R_law_draw (aCons (mVar 0) (aCons (mC (.int 2)) (aNil)))))) (sNil)) (sNil)) (sSeq (sRet (m2 fAdd (m2 fAdd (mCut (mVar 1) (oNone) (oSome (mVar 3))) (mAll kTupD (aCons (mAll G (aCons (mVar 0) (aCons (m2 fIdx (mVar 1) (mVar 3)) (aCons (m2 fSub (mVar 2) (mC (.int 1))) (aNil))))) (aNil)))) (mCut (mVar 1) (oSome (m2 fAdd (mVar 3) (mC (.int 1)))) (oNone)))) (sNil))))))
def R_law_bent : Nat → List Vl → Hs → Rs Vl
  | 0 => fun _ _ => none
  | n + 1 => frame (fnRun 3 5 false (b_law_bent (R_law_bent n)))
def b_law_things : MS :=
  sSeq (sSet 4 (mAll kLstT (aCons (mC .non) (aCons (mAll R_far_off (aCons (mVar 1) (aCons (mVar 3) (aNil)))) (aCons (mAll kTupD (aNil)) (aCons (mVar 1) (aCons (mC (.bl true)) (aNil)))))))) (sSeq (sFor (iRange1 (aCons (mC (.int 12)) (aNil))) (gN 5) (sSeq (sAsg (gU 3 (gsCons (gN 6) (gsCons (gN 7) (gsCons (gN 8) (gsNil))))) (mAll R_law_pick (aCons (mVar 0) (aCons (mVar 2) (aNil))))) (sSeq (sSet 4 (m2 fAdd (mVar 4) (mAll kLstD (aCons (mAll kTupD (aCons (mVar 6) (aCons (mVar 7) (aNil)))) (aCons (mAll kLstD (aCons (mVar 6) (aCons (mVar 7) (aNil)))) (aCons (mAll kTupD (aCons (mVar 7) (aCons (mVar 6) (aNil)))) (aCons (mAll kTupD (aCons (mVar 6) (aCons (mVar 7) (aCons (mVar 8) (aNil))))) (aCons (mAll kTupD (aCons (mVar 6) (aCons (mAll kList (aCons (mVar 7) (aNil))) (aNil)))) (aCons (mAll kTupD (aCons (mVar 8) (aCons (mVar 7) (aNil)))) (aNil)))))))))) (sSeq (sSet 4 (m2 fAdd (mVar 4) (mAll kLstD (aCons (mAll (R_law_bent 6) (aCons (mVar 0) (aCons (mAll kTupD (aCons (mVar 6) (aCons (mVar 7) (aNil)))) (aCons (mC (.int 2)) (aNil))))) (aCons (mAll kTupD (aCons (m2 (fEqD false) (mVar 6) (mC (.int 1))) (aCons (mVar 7) (aNil)))) (aCons (mAll R_law_odd (aCons (mVar 0) (aNil))) (aNil))))))) (sSeq (sExpr (mMethL fAppend (mVar 4) (aCons (mAll kTupD (aCons (mVar 6) (aCons (mAll kTuple (aCons (mComp (iAny (mVar 7)) (gN 9) (tYesM) (m2 (fEqD false) (mVar 9) (mC (.int 1))) [9]) (aNil))) (aNil)))) (aNil)))) (sNil)))))) (sSeq (sRet (mVar 4)) (sNil)))
def R_law_things : List Vl → Hs → Rs Vl := frame (fnRun 4 10 false (b_law_things))
def b_Code_contains : MS :=
  sSeq (sRet (mAnd (mAll R_is_word (aCons (mVar 1) (aCons (mProp 0 R_Code_bits (mVar 0)) (aNil)))) (m2 (fInDT false) (mVar 1) (mFld 0 1 (mVar 0))))) (sNil)
def R_Code_contains : List Vl → Hs → Rs Vl := frame (fnRun 2 2 false (b_Code_contains))
def b_off_by : MS :=
  sSeq (sIf (mT (m2 (fIn true) (mVar 3) (mAll R_seen_values (aCons (mAll R_numbers_of (aCons (mVar 0) (aNil))) (aCons (mVar 2) (aCons (mVar 1) (aNil))))))) (sSeq (sRet (mC (.int 0))) (sNil)) (sNil)) (sSeq (sSet 4 (mAll R_gaps_from (aCons (mAll (kLenO 0 R_Code_len) (aCons (mVar 0) (aNil))) (aCons (mVar 1) (aNil))))) (sSeq (sRet (m2 fIdx (mVar 4) (m2 fSub (mVar 3) (mVar 2)))) (sNil)))
def R_off_by : List Vl → Hs → Rs Vl := frame (fnRun 4 5 false (b_off_by))
def b_shows_off : MS :=
  sSeq (sExpr (mAll R_check_code (aCons (mVar 0) (aNil)))) (sSeq (sExpr (mAll R_check_span (aCons (mVar 1) (aCons (mC (.int 4)) (aNil))))) (sSeq (sIf (mT (m1 (fIsN false) (mVar 2))) (sSeq (sRet (m2 (fEqD false) (mAll R_most_off (aCons (mVar 0) (aCons (mVar 1) (aNil)))) (mC (.int 0)))) (sNil)) (sNil)) (sSeq (sIf (mOrT (mNotT (mT (m1 (fIsi "tuple") (mVar 2)))) (mT (m2 (fEqD true) (mAll kLen (aCons (mVar 2) (aNil))) (mC (.int 2))))) (sSeq (sRet (mC (.bl false))) (sNil)) (sNil)) (sSeq (sAsg (gU 2 (gsCons (gN 3) (gsCons (gN 4) (gsNil)))) (mVar 2)) (sSeq (sIf (mOrT (mNotT (mT (mAll R_is_between (aCons (mVar 3) (aCons (mC (.int 0)) (aCons (m2 fSub (mAll (kLenO 0 R_Code_len) (aCons (mVar 0) (aNil))) (mC (.int 1))) (aNil))))))) (mT (m2 (fInO 0 true R_Code_contains) (mVar 4) (mVar 0)))) (sSeq (sRet (mC (.bl false))) (sNil)) (sNil)) (sSeq (sSet 5 (mAll R_off_by (aCons (mVar 0) (aCons (mVar 1) (aCons (mVar 3) (aCons (m2 (fSubO 0 R_Code_getitem) (mVar 0) (mVar 4)) (aNil))))))) (sSeq (sRet (mAnd (m2 fGt (mVar 5) (mC (.int 0))) (m2 (fEqD false) (mVar 5) (mAll R_most_off (aCons (mVar 0) (aCons (mVar 1) (aNil))))))) (sNil))))))))
def R_shows_off : List Vl → Hs → Rs Vl := frame (fnRun 3 6 false (b_shows_off))
def b_law_due_k11 : MS :=
  sSeq (sSet 5 (mAll kMaxL (aCons (mComp (iAny (mVar 0)) (gU 3 (gsCons (gN 2) (gsCons (gN 3) (gsCons (gN 4) (gsNil))))) (tYesM) (mVar 4) [2, 3, 4]) (aNil)))) (sSeq (sIf (mT (m2 (fEqD false) (mVar 5) (mC (.int 0)))) (sSeq (sRet (m1 (fIsN false) (mVar 1))) (sNil)) (sNil)) (sSeq (sRet (m2 (fIn false) (mAll kRepr (aCons (mVar 1) (aNil))) (mComp (iAny (mVar 0)) (gU 3 (gsCons (gN 2) (gsCons (gN 3) (gsCons (gN 4) (gsNil))))) (mT (m2 (fEqD false) (mVar 4) (mVar 5))) (mAll kRepr (aCons (mAll kTupD (aCons (mVar 2) (aCons (mVar 3) (aNil)))) (aNil))) [2, 3, 4]))) (sNil)))
def R_law_due_k11 : List Vl → Hs → Rs Vl := frame (fnRun 2 6 false (b_law_due_k11))
def b_law_k11 : MS :=
  sSeq (sFor (iRange1 (aCons (mAll kMax2 (aCons (mC (.int 1)) (aCons (mAll kMin2 (aCons (mAll kLen (aCons (mVar 0) (aNil))) (aCons (mC (.int 3)) (aNil)))) (aNil)))) (aNil))) (gN 1) (sSeq (sSet 2 (mAll R_law_pen (aCons (mAll R_law_cell_at (aCons (mVar 0) (aCons (mVar 1) (aNil)))) (aNil)))) (sSeq (sFor (iRange1 (aCons (mC (.int 3)) (aNil))) (gN 3) (sSeq (sSet 4 (mAll R_law_words (aCons (mVar 2) (aCons (mC (.int 5)) (aNil))))) (sSeq (sPar 5 6 (aCons (mAll R_law_made (aCons (mVar 4) (aNil))) (aCons (mAll R_law_pick (aCons (mVar 2) (aCons (mAll kLstD (aCons (mC (.int 1)) (aCons (mC (.int 1)) (aCons (mC (.int 2)) (aCons (mC (.int 2)) (aCons (mC (.int 3)) (aCons (mC (.int 4)) (aCons (mC (.int 0)) (aNil))))))))) (aNil)))) (aNil)))) (sSeq (sSet 7 (mAll R_law_offs (aCons (mVar 4) (aCons (mVar 6) (aNil))))) (sSeq (sSet 12 (mComp (iAny (mVar 7)) (gU 3 (gsCons (gN 8) (gsCons (gN 9) (gsCons (gN 10) (gsNil))))) (mT (m2 (fEqD false) (mVar 10) (mAll kMaxL (aCons (mComp (iAny (mVar 7)) (gN 11) (tYesM) (m2 fIdx (mVar 11) (mC (.int 2))) [11]) (aNil))))) (mAll kTupD (aCons (mVar 8) (aCons (mVar 9) (aNil)))) [8, 9, 10])) (sSeq (sFor (iAny (m2 fAdd (mAll R_law_things (aCons (mVar 2) (aCons (mVar 5) (aCons (mVar 7) (aCons (mVar 6) (aNil)))))) (mVar 12))) (gN 13) (sSeq (sSet 14 (mAll kRepr (aCons (mVar 13) (aNil)))) (sSeq (sIf (mOrT (mNotT (mT (mAll R_law_same (aCons (mAll R_shows_off (aCons (mVar 5) (aCons (mVar 6) (aCons (mVar 13) (aNil))))) (aCons (mAll R_law_due_k11 (aCons (mVar 7) (aCons (mVar 13) (aNil)))) (aNil)))))) (mT (m2 (fEqD true) (mAll kRepr (aCons (mVar 13) (aNil))) (mVar 14)))) (sSeq (sRet (mC (.bl false))) (sNil)) (sNil)) (sNil)))) (sNil))))))) (sNil)))) (sSeq (sRet (mC (.bl true))) (sNil))
def R_law_k11 : List Vl → Hs → Rs Vl := frame (fnRun 1 15 false (b_law_k11))
def b_law_value_right : MS :=
  sSeq (sSet 2 (mAll kTupD (aNil))) (sSeq (sFor (iRange1 (aCons (mC (.int 5)) (aNil))) (gN 3) (sSeq (sSet 4 (mAll R_readings (aCons (mVar 0) (aCons (mVar 1) (aCons (mVar 3) (aNil)))))) (sSeq (sSet 6 (mComp (iAny (mAll R_law_window (aCons (mProp 0 R_Code_words (mVar 0)) (aCons (mVar 1) (aCons (mVar 3) (aNil)))))) (gN 5) (tYesM) (mCallO 0 R_Code_call (mVar 0) (aCons (mVar 5) (aNil))) [5])) (sSeq (sSet 9 (mComp (iRange1 (aCons (mProp 0 R_Code_bits (mVar 0)) (aNil))) (gN 7) (mT (m2 fGt (m1 kLenSetI (mComp (iAny (mVar 6)) (gN 8) (tYesM) (m2 fIdx (mVar 8) (mVar 7)) [8])) (mC (.int 1)))) (mVar 7) [7])) (sSeq (sIf (mOrT (mT (m2 (fEqD true) (mAll kLen (aCons (mVar 4) (aNil))) (m2 fShl (mC (.int 1)) (mAll kLen (aCons (mVar 9) (aNil)))))) (mT (m2 (fEqD true) (mComp (iAny (mVar 6)) (gN 8) (mT (m2 (fIn true) (mVar 8) (mVar 4))) (mVar 8) [8]) (mAll kLstD (aNil))))) (sSeq (sRet (mC (.bl false))) (sNil)) (sNil)) (sSeq (sIf (mOrT (mT (m2 (fEqD true) (mComp (iAny (mVar 2)) (gN 8) (mT (m2 (fIn true) (mVar 8) (mVar 4))) (mVar 8) [8]) (mAll kLstD (aNil)))) (mT (m2 (fEqD true) (mAll kList (aCons (mVar 4) (aNil))) (mAll (kSortY 64) (aCons (mVar 4) (aNil)))))) (sSeq (sRet (mC (.bl false))) (sNil)) (sNil)) (sSeq (sSet 2 (mVar 4)) (sNil)))))))) (sSeq (sIf (mT (m2 (fEqD true) (mAll R_mixes (aCons (mVar 0) (aCons (mVar 1) (aNil)))) (mAll R_readings (aCons (mVar 0) (aCons (mVar 1) (aCons (mC (.int 1)) (aNil))))))) (sSeq (sRet (mC (.bl false))) (sNil)) (sNil)) (sSeq (sIf (mT (m2 (fEqD true) (mAll kLen (aCons (mAll R_mixes (aCons (mVar 0) (aCons (mVar 1) (aNil)))) (aNil))) (m2 fShl (mC (.int 1)) (mAll kLen (aCons (mAll R_changes (aCons (mVar 0) (aCons (mVar 1) (aNil)))) (aNil)))))) (sSeq (sRet (mC (.bl false))) (sNil)) (sNil)) (sSeq (sRet (m2 (fEqD false) (mAll R_readings (aCons (mVar 0) (aCons (mVar 1) (aCons (mC (.int 0)) (aNil))))) (mAll kTupD (aCons (mCallO 0 R_Code_call (mVar 0) (aCons (mVar 1) (aNil))) (aNil))))) (sNil)))))
def R_law_value_right : List Vl → Hs → Rs Vl := frame (fnRun 2 10 false (b_law_value_right))
def b_law_right_k13 : MS :=
  sSeq (sPar 1 2 (aCons (mAll (kLenO 0 R_Code_len) (aCons (mVar 0) (aNil))) (aCons (mC (.bl true)) (aNil)))) (sSeq (sFor (iRange1 (aCons (mVar 1) (aNil))) (gN 3) (sSeq (sIf (mNotT (mT (mAll R_law_value_right (aCons (mVar 0) (aCons (mVar 3) (aNil)))))) (sSeq (sRet (mC (.bl false))) (sNil)) (sNil)) (sSeq (sSet 2 (mAnd (mVar 2) (m2 (fEqD false) (mAll kLen (aCons (mAll R_mixes (aCons (mVar 0) (aCons (mVar 3) (aNil)))) (aNil))) (mC (.int 2))))) (sNil)))) (sSeq (sIf (mOrT (mT (m2 (fEqD true) (mAll R_is_single (aCons (mVar 0) (aNil))) (mVar 2))) (mOrT (mT (m2 (fEqD true) (mAll R_off (aCons (mVar 0) (aCons (mC (.int 0)) (aNil)))) (mC (.int 0)))) (mT (m2 (fEqD true) (mAll R_holes (aCons (mVar 0) (aCons (mC (.int 0)) (aNil)))) (mC (.int 0)))))) (sSeq (sRet (mC (.bl false))) (sNil)) (sNil)) (sSeq (sIf (mAndT (mTV (mVar 2)) (mOrT (mT (m2 (fEqD true) (mAll R_off (aCons (mVar 0) (aCons (mC (.int 1)) (aNil)))) (mC (.int 0)))) (mT (m2 (fEqD true) (mAll R_holes (aCons (mVar 0) (aCons (mC (.int 1)) (aNil)))) (mC (.int 0)))))) (sSeq (sRet (mC (.bl false))) (sNil)) (sNil)) (sSeq (sFor (iRange1 (aCons (mC (.int 5)) (aNil))) (gN 4) (sSeq (sPar 5 6 (aCons (mAll R_far_off (aCons (mVar 0) (aCons (mVar 4) (aNil)))) (aCons (mAll kLstT (aNil)) (aNil)))) (sSeq (sFor (iRange1 (aCons (mVar 1) (aNil))) (gN 3) (sSeq (sExpr (mMethL fExtendT (mVar 6) (aCons (mAll R_readings (aCons (mVar 0) (aCons (mVar 3) (aCons (mVar 4) (aNil))))) (aNil)))) (sNil))) (sSeq (sIf (mT (m2 (fEqD true) (mAll R_holes (aCons (mVar 0) (aCons (mVar 4) (aNil)))) (mAll kLen (aCons (mComp (iAny (mVar 6)) (gN 7) (mT (m2 (fInO 0 true R_Code_contains) (mVar 7) (mVar 0))) (mVar 7) [7]) (aNil))))) (sSeq (sRet (mC (.bl false))) (sNil)) (sNil)) (sSeq (sIf (mNotT (mT (m3 fLe fLe (mC (.int 0)) (mAll R_off (aCons (mVar 0) (aCons (mVar 4) (aNil)))) (m2 fDiv (mVar 1) (mC (.int 2)))))) (sSeq (sRet (mC (.bl false))) (sNil)) (sNil)) (sSeq (sIf (mOrT (mT (m2 (fEqD true) (m1 (fIsN false) (mVar 5)) (m2 (fEqD false) (mAll R_off (aCons (mVar 0) (aCons (mVar 4) (aNil)))) (mC (.int 0))))) (mAndT (mT (m1 (fIsN true) (mVar 5))) (mT (m2 (fEqD false) (m2 (fSubO 0 R_Code_getitem) (mVar 0) (m2 fIdx (mVar 5) (mC (.int 1)))) (m1 fUSub (mC (.int 1))))))) (sSeq (sRet (mC (.bl false))) (sNil)) (sNil)) (sSeq (sIf (mAndT (mT (m1 (fIsN true) (mVar 5))) (mT (m2 (fIn true) (m2 fIdx (mVar 5) (mC (.int 1))) (mAll R_readings (aCons (mVar 0) (aCons (m2 fIdx (mVar 5) (mC (.int 0))) (aCons (mVar 4) (aNil)))))))) (sSeq (sRet (mC (.bl false))) (sNil)) (sNil)) (sNil)))))))) (sSeq (sRet (mC (.bl true))) (sNil))))))
def R_law_right_k13 : List Vl → Hs → Rs Vl := frame (fnRun 1 8 false (b_law_right_k13))
def b_law_k13 : MS :=
  sSeq (sFor (iRange1 (aCons (mAll kMax2 (aCons (mC (.int 1)) (aCons (mAll kMin2 (aCons (mAll kLen (aCons (mVar 0) (aNil))) (aCons (mC (.int 3)) (aNil)))) (aNil)))) (aNil))) (gN 1) (sSeq (sSet 2 (mAll R_law_pen (aCons (mAll R_law_cell_at (aCons (mVar 0) (aCons (mVar 1) (aNil)))) (aNil)))) (sSeq (sFor (iRange1 (aCons (mC (.int 3)) (aNil))) (gN 3) (sSeq (sIf (mNotT (mT (mAll R_law_right_k13 (aCons (mAll R_law_made (aCons (mAll R_law_words (aCons (mVar 2) (aCons (mC (.int 5)) (aNil)))) (aNil))) (aNil))))) (sSeq (sRet (mC (.bl false))) (sNil)) (sNil)) (sNil))) (sNil)))) (sSeq (sRet (mC (.bl true))) (sNil))
def R_law_k13 : List Vl → Hs → Rs Vl := frame (fnRun 1 4 false (b_law_k13))
def b_law_counted_right : MS :=
  sSeq (sSet 2 (mAll (kCm 0 R_Code_read) (aCons (mMethS fJoin (mC (.str "")) (aCons (mComp (iAny (mAll R_law_all (aCons (mC (.int 3)) (aNil)))) (gN 0) (tYesM) (m2 fAdd (mMethS fJoin (mC (.str "")) (aCons (mComp (iAny (mVar 0)) (gN 1) (tYesM) (mAll kStr (aCons (mVar 1) (aNil))) [1]) (aNil))) (mC (.str "\n"))) [0]) (aNil))) (aNil)))) (sSeq (sIf (mOrT (mT (m2 (fEqD true) (mAll R_mixes (aCons (mVar 2) (aCons (mC (.int 3)) (aNil)))) (mProp 0 R_Code_words (mVar 2)))) (mT (m2 (fEqD true) (mAll R_mixes (aCons (mVar 2) (aCons (mC (.int 7)) (aNil)))) (mProp 0 R_Code_words (mVar 2))))) (sSeq (sRet (mC (.bl false))) (sNil)) (sNil)) (sSeq (sIf (mOrT (mT (m2 (fEqD true) (mAll R_off (aCons (mVar 2) (aCons (mC (.int 1)) (aNil)))) (mC (.int 3)))) (mT (m2 (fEqD true) (mAll R_holes (aCons (mVar 2) (aCons (mC (.int 1)) (aNil)))) (mC (.int 0))))) (sSeq (sRet (mC (.bl false))) (sNil)) (sNil)) (sSeq (sRet (mAnd (m2 (fEqD false) (mAll R_far_off (aCons (mVar 2) (aCons (mC (.int 1)) (aNil)))) (mAll kTupD (aCons (mC (.int 3)) (aCons (mAll kTupD (aCons (mC (.int 0)) (aCons (mC (.int 0)) (aCons (mC (.int 0)) (aNil))))) (aNil))))) (mAnd (m2 (fEqD false) (mAll R_tolerance (aCons (mVar 2) (aNil))) (mC (.int 0))) (m2 (fEqD false) (mAll R_off (aCons (mVar 2) (aCons (mC (.int 2)) (aNil)))) (mC (.int 3)))))) (sNil))))
def R_law_counted_right : List Vl → Hs → Rs Vl := frame (fnRun 0 3 false (b_law_counted_right))
def b_law_plain_right : MS :=
  sSeq (sPar 0 1 (aCons (mAll (kMake 0 false R_Code_init) (aCons (mAll kTupD (aCons (mC (.int 0)) (aCons (mC (.int 0)) (aNil)))) (aCons (mAll kTupD (aCons (mC (.int 0)) (aCons (mC (.int 1)) (aNil)))) (aCons (mAll kTupD (aCons (mC (.int 1)) (aCons (mC (.int 0)) (aNil)))) (aCons (mAll kTupD (aCons (mC (.int 1)) (aCons (mC (.int 1)) (aNil)))) (aNil)))))) (aCons (mAll (kMake 0 false R_Code_init) (aCons (mAll kTupD (aCons (mC (.int 0)) (aCons (mC (.int 0)) (aNil)))) (aCons (mAll kTupD (aCons (mC (.int 0)) (aCons (mC (.int 1)) (aNil)))) (aCons (mAll kTupD (aCons (mC (.int 1)) (aCons (mC (.int 1)) (aNil)))) (aCons (mAll kTupD (aCons (mC (.int 1)) (aCons (mC (.int 0)) (aNil)))) (aNil)))))) (aNil)))) (sSeq (sIf (mT (m2 (fEqD true) (mAll R_mixes (aCons (mVar 0) (aCons (mC (.int 1)) (aNil)))) (mAll kTupD (aCons (mAll kTupD (aCons (mC (.int 0)) (aCons (mC (.int 0)) (aNil)))) (aCons (mAll kTupD (aCons (mC (.int 0)) (aCons (mC (.int 1)) (aNil)))) (aCons (mAll kTupD (aCons (mC (.int 1)) (aCons (mC (.int 0)) (aNil)))) (aCons (mAll kTupD (aCons (mC (.int 1)) (aCons (mC (.int 1)) (aNil)))) (aNil)))))))) (sSeq (sRet (mC (.bl false))) (sNil)) (sNil)) (sSeq (sIf (mT (m2 (fEqD true) (mAll R_mixes (aCons (mVar 0) (aCons (mC (.int 0)) (aNil)))) (mAll kTupD (aCons (mAll kTupD (aCons (mC (.int 0)) (aCons (mC (.int 0)) (aNil)))) (aCons (mAll kTupD (aCons (mC (.int 0)) (aCons (mC (.int 1)) (aNil)))) (aNil)))))) (sSeq (sRet (mC (.bl false))) (sNil)) (sNil)) (sSeq (sSet 3 (m2 fAdd (mComp (iRange1 (aCons (mC (.int 5)) (aNil))) (gN 2) (tYesM) (mAll R_off (aCons (mVar 0) (aCons (mVar 2) (aNil)))) [2]) (mComp (iRange1 (aCons (mC (.int 5)) (aNil))) (gN 2) (tYesM) (mAll R_off (aCons (mVar 1) (aCons (mVar 2) (aNil)))) [2]))) (sSeq (sIf (mOrT (mT (m2 (fEqD true) (mVar 3) (mAll kLstD (aCons (mC (.int 0)) (aCons (mC (.int 1)) (aCons (mC (.int 1)) (aCons (mC (.int 0)) (aCons (mC (.int 0)) (aCons (mC (.int 0)) (aCons (mC (.int 0)) (aCons (mC (.int 1)) (aCons (mC (.int 0)) (aCons (mC (.int 0)) (aNil)))))))))))))) (mT (m2 (fEqD true) (mComp (iRange1 (aCons (mC (.int 5)) (aNil))) (gN 2) (tYesM) (m2 fAdd (mAll R_holes (aCons (mVar 0) (aCons (mVar 2) (aNil)))) (mAll R_holes (aCons (mVar 1) (aCons (mVar 2) (aNil))))) [2]) (m2 fMul (mAll kLstD (aCons (mC (.int 0)) (aNil))) (mC (.int 5)))))) (sSeq (sRet (mC (.bl false))) (sNil)) (sNil)) (sSeq (sSet 3 (mAll kLstD (aCons (mAll R_far_off (aCons (mVar 0) (aCons (mC (.int 1)) (aNil)))) (aCons (mAll R_far_off (aCons (mVar 1) (aCons (mC (.int 2)) (aNil)))) (aCons (mAll R_far_off (aCons (mVar 0) (aCons (mC (.int 3)) (aNil)))) (aCons (mAll R_tolerance (aCons (mVar 0) (aNil))) (aCons (mAll R_tolerance (aCons (mVar 1) (aNil))) (aNil)))))))) (sSeq (sIf (mT (m2 (fEqD true) (mVar 3) (mAll kLstD (aCons (mAll kTupD (aCons (mC (.int 1)) (aCons (mAll kTupD (aCons (mC (.int 0)) (aCons (mC (.int 0)) (aNil)))) (aNil)))) (aCons (mAll kTupD (aCons (mC (.int 0)) (aCons (mAll kTupD (aCons (mC (.int 1)) (aCons (mC (.int 0)) (aNil)))) (aNil)))) (aCons (mC .non) (aCons (mC (.int 0)) (aCons (mC (.int 1)) (aNil))))))))) (sSeq (sRet (mC (.bl false))) (sNil)) (sNil)) (sSeq (sIf (mOrT (mT (m1 (fIsN true) (mAll R_alike (aCons (mVar 0) (aCons (mVar 1) (aNil)))))) (mOrT (mT (mAll R_is_single (aCons (mVar 0) (aNil)))) (mNotT (mT (mAll R_is_single (aCons (mVar 1) (aNil))))))) (sSeq (sRet (mC (.bl false))) (sNil)) (sNil)) (sSeq (sIf (mT (m1 (fIsN false) (mAll R_alike (aCons (mVar 1) (aCons (mAll R_turned (aCons (mVar 1) (aCons (mC (.int 1)) (aNil)))) (aNil)))))) (sSeq (sRet (mC (.bl false))) (sNil)) (sNil)) (sSeq (sRet (m2 (fEqD false) (mProp 0 R_Code_words (mAll R_flipped (aCons (mVar 1) (aCons (mAll kTupD (aCons (mC (.int 0)) (aCons (mC (.int 1)) (aNil)))) (aNil))))) (mAll kTupD (aCons (mAll kTupD (aCons (mC (.int 1)) (aCons (mC (.int 1)) (aNil)))) (aCons (mAll kTupD (aCons (mC (.int 1)) (aCons (mC (.int 0)) (aNil)))) (aCons (mAll kTupD (aCons (mC (.int 0)) (aCons (mC (.int 0)) (aNil)))) (aCons (mAll kTupD (aCons (mC (.int 0)) (aCons (mC (.int 1)) (aNil)))) (aNil)))))))) (sNil))))))))))
def R_law_plain_right : List Vl → Hs → Rs Vl := frame (fnRun 0 4 false (b_law_plain_right))
def b_law_rings_right : MS :=
  sSeq (sPar 1 2 (aCons (mAll R_law_made (aCons (mAll R_law_twisted (aCons (mVar 0) (aNil))) (aNil))) (aCons (mAll R_law_made (aCons (mAll R_law_lone (aCons (mVar 0) (aNil))) (aNil))) (aNil)))) (sSeq (sSet 3 (mAll R_law_made (aCons (mAll R_law_mirror (aCons (mAll kMin2 (aCons (mC (.int 4)) (aCons (mVar 0) (aNil)))) (aNil))) (aNil)))) (sSeq (sIf (mOrT (mT (m2 (fEqD true) (mAll R_tolerance (aCons (mVar 1) (aNil))) (mAll kMin2 (aCons (mC (.int 4)) (aCons (m2 fSub (mVar 0) (mC (.int 1))) (aNil)))))) (mOrT (mNotT (mT (mAll R_is_single (aCons (mVar 1) (aNil))))) (mT (m2 (fEqD true) (mAll (kLenO 0 R_Code_len) (aCons (mVar 1) (aNil))) (m2 fMul (mC (.int 2)) (mVar 0)))))) (sSeq (sRet (mC (.bl false))) (sNil)) (sNil)) (sSeq (sFor (iRange2 (aCons (mC (.int 1)) (aCons (m2 fAdd (mAll kMin2 (aCons (mC (.int 4)) (aCons (m2 fSub (mVar 0) (mC (.int 1))) (aNil)))) (mC (.int 1))) (aNil)))) (gN 4) (sSeq (sIf (mOrT (mT (m2 (fEqD true) (mAll R_off (aCons (mVar 1) (aCons (mVar 4) (aNil)))) (mC (.int 0)))) (mT (m2 (fEqD true) (mAll R_holes (aCons (mVar 1) (aCons (mVar 4) (aNil)))) (m2 fMul (m2 fMul (mC (.int 2)) (mVar 0)) (m2 fSub (m2 fSub (m2 fShl (mC (.int 1)) (mVar 4)) (mVar 4)) (mC (.int 1))))))) (sSeq (sRet (mC (.bl false))) (sNil)) (sNil)) (sNil))) (sSeq (sFor (iRange1 (aCons (mAll kMin2 (aCons (mC (.int 5)) (aCons (mVar 0) (aNil)))) (aNil))) (gN 4) (sSeq (sSet 5 (mIf (mT (m2 fGt (mVar 4) (mC (.int 0)))) (m2 fMul (mVar 0) (m2 fSub (m2 fSub (m2 fShl (mC (.int 2)) (mVar 4)) (mVar 4)) (mC (.int 1)))) (mC (.int 0)))) (sSeq (sIf (mOrT (mT (m2 (fEqD true) (mAll R_off (aCons (mVar 2) (aCons (mVar 4) (aNil)))) (mC (.int 0)))) (mT (m2 (fEqD true) (mAll R_holes (aCons (mVar 2) (aCons (mVar 4) (aNil)))) (mVar 5)))) (sSeq (sRet (mC (.bl false))) (sNil)) (sNil)) (sNil)))) (sSeq (sIf (mOrT (mT (m2 (fEqD true) (mAll R_tolerance (aCons (mVar 2) (aNil))) (mC (.int 4)))) (mT (mAll R_is_single (aCons (mVar 2) (aNil))))) (sSeq (sRet (mC (.bl false))) (sNil)) (sNil)) (sSeq (sRet (mAnd (mAll R_is_single (aCons (mVar 3) (aNil))) (mAnd (m2 (fEqD false) (mAll R_holes (aCons (mVar 3) (aCons (mC (.int 4)) (aNil)))) (mC (.int 0))) (mAnd (m2 (fEqD false) (mAll R_tolerance (aCons (mVar 3) (aNil))) (mC (.int 1))) (m2 (fEqD false) (mAll R_off (aCons (mVar 3) (aCons (mC (.int 1)) (aNil)))) (mC (.int 0))))))) (sNil)))))))
def R_law_rings_right : List Vl → Hs → Rs Vl := frame (fnRun 1 6 false (b_law_rings_right))
def b_law_k14 : MS :=
  sSeq (sIf (mOrT (mNotT (mT (mAll R_law_plain_right aNil))) (mNotT (mT (mAll R_law_counted_right aNil)))) (sSeq (sRet (mC (.bl false))) (sNil)) (sNil)) (sSeq (sFor (iRange1 (aCons (mAll kMax2 (aCons (mC (.int 1)) (aCons (mAll kMin2 (aCons (mAll kLen (aCons (mVar 0) (aNil))) (aCons (mC (.int 3)) (aNil)))) (aNil)))) (aNil))) (gN 1) (sSeq (sSet 2 (m2 fAdd (mC (.int 2)) (mAll R_law_draw (aCons (mAll R_law_pen (aCons (mAll R_law_cell_at (aCons (mVar 0) (aCons (mVar 1) (aNil)))) (aNil))) (aCons (mC (.int 4)) (aNil)))))) (sSeq (sIf (mNotT (mT (mAll R_law_rings_right (aCons (mVar 2) (aNil))))) (sSeq (sRet (mC (.bl false))) (sNil)) (sNil)) (sNil)))) (sSeq (sRet (mC (.bl true))) (sNil)))
def R_law_k14 : List Vl → Hs → Rs Vl := frame (fnRun 1 3 false (b_law_k14))
def b_spelled : MS :=
  sSeq (sRet (mMethS fJoin (mC (.str "")) (aCons (mComp (iAny (mVar 0)) (gN 1) (tYesM) (mAll kStr (aCons (mVar 1) (aNil))) [1]) (aNil)))) (sNil)
def R_spelled : List Vl → Hs → Rs Vl := frame (fnRun 1 2 false (b_spelled))
def b_Code_text : MS :=
  sSeq (sRet (mMethS fJoin (mC (.str "")) (aCons (mComp (iAny (mFld 0 0 (mVar 0))) (gN 1) (tYesM) (m2 fAdd (mAll R_spelled (aCons (mVar 1) (aNil))) (mC (.str "\n"))) [1]) (aNil)))) (sNil)
def R_Code_text : List Vl → Hs → Rs Vl := frame (fnRun 1 2 false (b_Code_text))
def b_law_right_k15 : MS :=
  sSeq (sPar 4 5 (aCons (mAll (kMake 0 false R_Code_init) (aCons (mAll kTupD (aCons (mC (.int 0)) (aCons (mC (.int 0)) (aNil)))) (aCons (mAll kTupD (aCons (mC (.int 0)) (aCons (mC (.int 1)) (aNil)))) (aCons (mAll kTupD (aCons (mC (.int 1)) (aCons (mC (.int 0)) (aNil)))) (aCons (mAll kTupD (aCons (mC (.int 1)) (aCons (mC (.int 1)) (aNil)))) (aNil)))))) (aCons (mAll (kMake 0 false R_Code_init) (aCons (mAll kTupD (aCons (mC (.int 0)) (aCons (mC (.int 0)) (aNil)))) (aCons (mAll kTupD (aCons (mC (.int 0)) (aCons (mC (.int 1)) (aNil)))) (aCons (mAll kTupD (aCons (mC (.int 1)) (aCons (mC (.int 1)) (aNil)))) (aCons (mAll kTupD (aCons (mC (.int 1)) (aCons (mC (.int 0)) (aNil)))) (aNil)))))) (aNil)))) (sSeq (sSet 6 (mAll kLstD (aCons (mCallOK 0 1 [0] R_Code_call (mVar 4) (aCons (mVar 0) (aNil))) (aCons (m2 (fSubO 0 R_Code_getitem) (mVar 4) (m2 fIdx (mProp 0 R_Code_words (mVar 4)) (mVar 0))) (aCons (mProp 0 R_Code_words (mAll (kPrm1 1 [0] (.p (.fn 1000)) R_Code_read) (aCons (mMethO 0 R_Code_text (mVar 4) aNil) (aNil)))) (aCons (mProp 0 R_Code_words (mAll (kPrm 2 [1, 0] R_turned) (aCons (mVar 0) (aCons (mVar 4) (aNil))))) (aNil))))))) (sSeq (sSet 6 (m2 fAdd (mVar 6) (mAll kLstD (aCons (mProp 0 R_Code_words (mAll (kPrm 2 [1, 0] R_renamed) (aCons (mVar 2) (aCons (mVar 4) (aNil))))) (aCons (mProp 0 R_Code_words (mAll (kPrm 2 [1, 0] R_flipped) (aCons (mVar 3) (aCons (mVar 4) (aNil))))) (aNil)))))) (sSeq (sSet 6 (m2 fAdd (mVar 6) (mAll kLstD (aCons (mAll (kPrm 2 [1, 0] R_alike) (aCons (mVar 5) (aCons (mVar 4) (aNil)))) (aCons (mAll (kPrm 2 [1, 0] R_alike) (aCons (mVar 4) (aCons (mAll R_turned (aCons (mVar 4) (aCons (mVar 0) (aNil)))) (aNil)))) (aCons (mAll (kPrm 2 [1, 0] R_mixes) (aCons (mVar 0) (aCons (mVar 4) (aNil)))) (aNil))))))) (sSeq (sSet 6 (m2 fAdd (mVar 6) (mAll kLstD (aCons (mAll (kPrm 2 [1, 0] R_changes) (aCons (mVar 0) (aCons (mVar 4) (aNil)))) (aCons (mAll (kPrm 1 [0] R_is_single) (aCons (mVar 4) (aNil))) (aCons (mAll (kPrm 3 [2, 1, 0] R_readings) (aCons (mVar 1) (aCons (mVar 0) (aCons (mVar 4) (aNil))))) (aNil))))))) (sSeq (sSet 6 (m2 fAdd (mVar 6) (mAll kLstD (aCons (mAll (kPrm 2 [1, 0] R_off) (aCons (mVar 1) (aCons (mVar 4) (aNil)))) (aCons (mAll (kPrm 2 [1, 0] R_far_off) (aCons (mVar 1) (aCons (mVar 4) (aNil)))) (aCons (mAll (kPrm 2 [1, 0] R_holes) (aCons (mVar 1) (aCons (mVar 4) (aNil)))) (aNil))))))) (sSeq (sSet 6 (m2 fAdd (mVar 6) (mAll kLstD (aCons (mAll (kPrm 3 [2, 1, 0] R_shows_off) (aCons (mC .non) (aCons (mVar 1) (aCons (mVar 4) (aNil))))) (aCons (mAll (kPrm 1 [0] R_tolerance) (aCons (mVar 5) (aNil))) (aNil)))))) (sSeq (sSet 7 (mAll kLstD (aCons (mCallO 0 R_Code_call (mVar 4) (aCons (mVar 0) (aNil))) (aCons (mVar 0) (aCons (mProp 0 R_Code_words (mVar 4)) (aCons (mProp 0 R_Code_words (mAll R_turned (aCons (mVar 4) (aCons (mVar 0) (aNil))))) (aCons (mProp 0 R_Code_words (mAll R_renamed (aCons (mVar 4) (aCons (mVar 2) (aNil))))) (aCons (mProp 0 R_Code_words (mAll R_flipped (aCons (mVar 4) (aCons (mVar 3) (aNil))))) (aNil))))))))) (sSeq (sSet 7 (m2 fAdd (mVar 7) (mAll kLstD (aCons (mAll R_alike (aCons (mVar 4) (aCons (mVar 5) (aNil)))) (aCons (mAll R_alike (aCons (mAll R_turned (aCons (mVar 4) (aCons (mVar 0) (aNil)))) (aCons (mVar 4) (aNil)))) (aCons (mAll R_mixes (aCons (mVar 4) (aCons (mVar 0) (aNil)))) (aCons (mAll R_changes (aCons (mVar 4) (aCons (mVar 0) (aNil)))) (aNil)))))))) (sSeq (sSet 7 (m2 fAdd (mVar 7) (mAll kLstD (aCons (mAll R_is_single (aCons (mVar 4) (aNil))) (aCons (mAll R_readings (aCons (mVar 4) (aCons (mVar 0) (aCons (mVar 1) (aNil))))) (aCons (mAll R_off (aCons (mVar 4) (aCons (mVar 1) (aNil)))) (aCons (mAll R_far_off (aCons (mVar 4) (aCons (mVar 1) (aNil)))) (aCons (mAll R_holes (aCons (mVar 4) (aCons (mVar 1) (aNil)))) (aNil))))))))) (sSeq (sRet (mAll R_law_same (aCons (mVar 6) (aCons (m2 fAdd (mVar 7) (mAll kLstD (aCons (mAll R_shows_off (aCons (mVar 4) (aCons (mVar 1) (aCons (mC .non) (aNil))))) (aCons (mC (.int 1)) (aNil))))) (aNil))))) (sNil)))))))))))
def R_law_right_k15 : List Vl → Hs → Rs Vl := frame (fnRun 4 8 false (b_law_right_k15))
def b_law_k15 : MS :=
  sSeq (sFor (iRange1 (aCons (mAll kMax2 (aCons (mC (.int 1)) (aCons (mAll kMin2 (aCons (mAll kLen (aCons (mVar 0) (aNil))) (aCons (mC (.int 3)) (aNil)))) (aNil)))) (aNil))) (gN 1) (sSeq (sSet 2 (mAll R_law_pen (aCons (mAll R_law_cell_at (aCons (mVar 0) (aCons (mVar 1) (aNil)))) (aNil)))) (sSeq (sFor (iRange1 (aCons (mC (.int 4)) (aNil))) (gN 3) (sSeq (sPar 4 5 (aCons (mAll R_law_pick (aCons (mVar 2) (aCons (mAll kLstD (aCons (mAll kTupD (aCons (mC (.int 0)) (aCons (mC (.int 1)) (aNil)))) (aCons (mAll kTupD (aCons (mC (.int 1)) (aCons (mC (.int 0)) (aNil)))) (aNil)))) (aNil)))) (aCons (mAll R_law_pick (aCons (mVar 2) (aCons (mAll kLstD (aCons (mAll kTupD (aNil)) (aCons (mAll kTupD (aCons (mC (.int 0)) (aNil))) (aCons (mAll kTupD (aCons (mC (.int 1)) (aNil))) (aCons (mAll kTupD (aCons (mC (.int 0)) (aCons (mC (.int 1)) (aNil)))) (aNil)))))) (aNil)))) (aNil)))) (sSeq (sIf (mNotT (mT (mAll R_law_right_k15 (aCons (mAll R_law_draw (aCons (mVar 2) (aCons (mC (.int 4)) (aNil)))) (aCons (mAll R_law_draw (aCons (mVar 2) (aCons (mC (.int 4)) (aNil)))) (aCons (mVar 4) (aCons (mVar 5) (aNil)))))))) (sSeq (sRet (mC (.bl false))) (sNil)) (sNil)) (sNil)))) (sNil)))) (sSeq (sRet (mC (.bl true))) (sNil))
def R_law_k15 : List Vl → Hs → Rs Vl := frame (fnRun 1 6 false (b_law_k15))
def b_law_near_k30 : MS :=
  sSeq (sRet (mAll (kSortY 64) (aCons (mComp (iRange1 (aCons (mAll kLen (aCons (mVar 0) (aNil))) (aNil))) (gN 1) (tYesM) (m2 fAdd (m2 fAdd (mCut (mVar 0) (oNone) (oSome (mVar 1))) (mAll kTupD (aCons (m2 fSub (mC (.int 1)) (m2 fIdx (mVar 0) (mVar 1))) (aNil)))) (mCut (mVar 0) (oSome (m2 fAdd (mVar 1) (mC (.int 1)))) (oNone))) [1]) (aNil)))) (sNil)
def R_law_near_k30 : List Vl → Hs → Rs Vl := frame (fnRun 1 2 false (b_law_near_k30))
def b_law_apart : MS :=
  sSeq (sRet (mComp (iRange1 (aCons (mAll kLen (aCons (mVar 0) (aNil))) (aNil))) (gN 2) (mT (m2 (fEqD true) (m2 fIdx (mVar 0) (mVar 2)) (m2 (fSubO 0 R_Code_getitem) (mVar 1) (mVar 2)))) (mVar 2) [2])) (sNil)
def R_law_apart : List Vl → Hs → Rs Vl := frame (fnRun 2 3 false (b_law_apart))
def b_law_rings : MS :=
  sSeq (sPar 3 4 (aCons (mAll kLstT (aNil)) (aCons (mAll kLstT (aCons (mAll kLstD (aCons (m2 fMul (mAll kTupD (aCons (mC (.int 0)) (aNil))) (mVar 1)) (aNil))) (aNil))) (aNil)))) (sSeq (whileS (mAndT (mT (m2 (fEqD true) (mVar 4) (mAll kLstD (aNil)))) (mT (m2 fLt (mAll kLen (aCons (mVar 3) (aNil))) (mVar 2)))) (sSeq (sSet 5 (mMethL fPop (mVar 4) aNil)) (sSeq (sSet 6 (m2 fSub (mVar 0) (mAll kLen (aCons (mVar 5) (aNil))))) (sSeq (sIf (mT (m2 (fEqD false) (mVar 6) (mC (.int 0)))) (sSeq (sExpr (mMethL fAppend (mVar 3) (aCons (mAll kTuple (aCons (mVar 5) (aNil))) (aNil)))) (sNil)) (sNil)) (sSeq (sFor (iAny (m2 fMul (m1 fRevU (mAll R_law_near_k30 (aCons (m2 fIdx (mVar 5) (m1 fUSub (mC (.int 1)))) (aNil)))) (mAll kInt2 (aCons (m2 fGt (mVar 6) (mC (.int 0))) (aNil))))) (gN 7) (sSeq (sIf (mAndT (mT (m2 (fIn true) (mVar 7) (mVar 5))) (mT (m2 fLe (mAll kLen (aCons (mAll R_law_apart (aCons (mVar 7) (aCons (m2 fIdx (mVar 5) (mC (.int 0))) (aNil)))) (aNil))) (mVar 6)))) (sSeq (sExpr (mMethL fAppend (mVar 4) (aCons (m2 fAdd (mVar 5) (mAll kLstD (aCons (mVar 7) (aNil)))) (aNil)))) (sNil)) (sNil)) (sNil))) (sNil))))) 1000000) (sSeq (sRet (mVar 3)) (sNil)))
def R_law_rings : List Vl → Hs → Rs Vl := frame (fnRun 3 8 false (b_law_rings))
def b_law_due_k30 : MS :=
  sSeq (sSet 2 (mIf (mAndT (mT (m2 (fEqD false) (m2 fMod (mVar 0) (mC (.int 2))) (mC (.int 0)))) (mT (m2 fLe (mVar 0) (mAll kLen (aCons (mAll R_law_all (aCons (mVar 1) (aNil))) (aNil)))))) (mAll R_law_rings (aCons (mVar 0) (aCons (mVar 1) (aCons (mC (.int 1)) (aNil))))) (mAll kLstD (aNil)))) (sSeq (sRet (mIf (mT (m2 (fEqD true) (mVar 2) (mAll kLstD (aNil)))) (m2 fIdx (mVar 2) (mC (.int 0))) (mC .non))) (sNil))
def R_law_due_k30 : List Vl → Hs → Rs Vl := frame (fnRun 2 3 false (b_law_due_k30))
def b_check_number : MS :=
  sSeq (sIf (mNotT (mT (mAll R_is_between (aCons (mVar 0) (aCons (mVar 1) (aCons (mVar 2) (aNil))))))) (sSeq (sRaiseA 9 (aCons (mJs [mC (.str "an integer from "), m1 fFmt (mVar 1), mC (.str " to "), m1 fFmt (mVar 2), mC (.str " is required")] Str.empty) (aNil))) (sNil)) (sNil)) (sNil)
def R_check_number : List Vl → Hs → Rs Vl := frame (fnRun 3 3 false (b_check_number))
def b_check_sizes : MS :=
  sSeq (sExpr (mAll R_check_number (aCons (mVar 0) (aCons (mC (.int 2)) (aCons (mC (.int 16)) (aNil)))))) (sSeq (sExpr (mAll R_check_number (aCons (mVar 1) (aCons (mC (.int 1)) (aCons (mC (.int 4)) (aNil)))))) (sNil))
def R_check_sizes : List Vl → Hs → Rs Vl := frame (fnRun 2 2 false (b_check_sizes))
def b_anything : MS :=
  sSeq (sRet (mC (.bl true))) (sNil)
def R_anything : List Vl → Hs → Rs Vl := frame (fnRun 1 1 false (b_anything))
def b_fresh_places : MS :=
  sSeq (sRet (mAll kLen (aCons (mComp (iRange1 (aCons (mAll kLen (aCons (m2 fIdx (mVar 0) (mC (.int 0))) (aNil))) (aNil))) (gN 1) (mT (m2 (fEqD false) (mAll kSum (aCons (mComp (iAny (mVar 0)) (gN 2) (tYesM) (m2 fIdx (mVar 2) (mVar 1)) [2]) (aNil))) (mC (.int 0)))) (mVar 1) [1]) (aNil)))) (sNil)
def R_fresh_places : List Vl → Hs → Rs Vl := frame (fnRun 1 3 false (b_fresh_places))
def b_stepped : MS :=
  sSeq (sRet (mAll kTupD (aStar (mCut (mVar 0) (oNone) (oSome (mVar 1))) (aCons (m2 fSub (mC (.int 1)) (m2 fIdx (mVar 0) (mVar 1))) (aStar (mCut (mVar 0) (oSome (m2 fAdd (mVar 1) (mC (.int 1)))) (oNone)) (aNil)))))) (sNil)
def R_stepped : List Vl → Hs → Rs Vl := frame (fnRun 2 2 false (b_stepped))
def b_next_words : MS :=
  sSeq (sSet 2 (m2 fIdx (mVar 0) (m1 fUSub (mC (.int 1))))) (sSeq (sSet 3 (mAll kMax2 (aCons (mC (.int 0)) (aCons (m2 fSub (mAll R_fresh_places (aCons (mVar 0) (aNil))) (mC (.int 1))) (aNil))))) (sSeq (sSet 5 (mAll (kSortY 64) (aCons (mComp (iRange2 (aCons (mVar 3) (aCons (mAll kLen (aCons (mVar 2) (aNil))) (aNil)))) (gN 4) (tYesM) (mAll R_stepped (aCons (mVar 2) (aCons (mVar 4) (aNil)))) [4]) (aNil)))) (sSeq (sRet (mComp (iAny (mVar 5)) (gN 6) (mAndT (mT (m2 (fIn true) (mVar 6) (mVar 0))) (mT (m2 fLe (mAll kSum (aCons (mVar 6) (aNil))) (mVar 1)))) (mVar 6) [6])) (sNil))))
def R_next_words : List Vl → Hs → Rs Vl := frame (fnRun 2 7 false (b_next_words))
def b_grown (G : List Vl → Hs → Rs Vl) : MS :=
  sSeq (sIf (mT (m2 (fEqD false) (mAll kLen (aCons (mVar 0) (aNil))) (mVar 1))) (sSeq (sRet (mIf (mT (mCallL 3 [0] (fun i => if i = 0 then R_anything else fun _ _ => none) (aCons (mVar 0) (aNil)))) (mVar 0) (mC .non))) (sNil)) (sNil)) (sSeq (sFor (iAny (mAll R_next_words (aCons (mVar 0) (aCons (m2 fSub (mVar 1) (mAll kLen (aCons (mVar 0) (aNil)))) (aNil))))) (gN 4) (sSeq (sSet 5 (mAll kLstD (aStar (mVar 0) (aCons (mVar 4) (aNil))))) (sSeq (sIf (mT (mCallL 2 [0] (fun i => if i = 0 then R_anything else fun _ _ => none) (aCons (mVar 5) (aNil)))) (sSeq (sSet 6 (mAll G (aCons (mVar 5) (aCons (mVar 1) (aCons (mVar 2) (aCons (mVar 3) (aNil))))))) (sSeq (sIf (mT (m1 (fIsN true) (mVar 6))) (sSeq (sRet (mVar 6)) (sNil)) (sNil)) (sNil))) (sNil)) (sNil)))) (sSeq (sRet (mC .non)) (sNil)))
def R_grown : Nat → List Vl → Hs → Rs Vl
  | 0 => fun _ _ => none
  | n + 1 => frame (fnRun 4 7 false (b_grown (R_grown n)))
def b_smallest : MS :=
  sSeq (sIf (mOrT (mT (m2 (fEqD false) (m2 fMod (mVar 0) (mC (.int 2))) (mC (.int 1)))) (mT (m2 fGt (mVar 0) (m2 fShl (mC (.int 1)) (mVar 1))))) (sSeq (sRet (mC .non)) (sNil)) (sNil)) (sSeq (sSet 4 (mAll (R_grown 20) (aCons (mAll kLstD (aCons (m2 fMul (mAll kTupD (aCons (mC (.int 0)) (aNil))) (mVar 1)) (aNil))) (aCons (mVar 0) (aCons (mVar 2) (aCons (mVar 3) (aNil))))))) (sSeq (sRet (mIf (mT (m1 (fIsN false) (mVar 4))) (mC .non) (mAll (kMake 0 false R_Code_init) (aStar (mVar 4) aNil)))) (sNil)))
def R_smallest : List Vl → Hs → Rs Vl := frame (fnRun 4 5 false (b_smallest))
def b_single : MS :=
  sSeq (sExpr (mAll R_check_sizes (aCons (mVar 0) (aCons (mVar 1) (aNil))))) (sSeq (sRet (mAll R_smallest (aCons (mVar 0) (aCons (mVar 1) (aCons (mC (.fn 0)) (aCons (mC (.fn 0)) (aNil))))))) (sNil))
def R_single : List Vl → Hs → Rs Vl := frame (fnRun 2 2 false (b_single))
def b_law_k30 : MS :=
  sSeq (sFor (iRange1 (aCons (mAll kMax2 (aCons (mC (.int 1)) (aCons (mAll kMin2 (aCons (mAll kLen (aCons (mVar 0) (aNil))) (aCons (mC (.int 3)) (aNil)))) (aNil)))) (aNil))) (gN 1) (sSeq (sSet 2 (mAll R_law_pen (aCons (mAll R_law_cell_at (aCons (mVar 0) (aCons (mVar 1) (aNil)))) (aNil)))) (sSeq (sFor (iRange2 (aCons (mC (.int 1)) (aCons (mC (.int 5)) (aNil)))) (gN 3) (sSeq (sFor (iAny (m2 fAdd (mCut (mAll R_law_mixed (aCons (mVar 2) (aCons (m2 (fun v w h => kRange [v, w] h) (mC (.int 2)) (mC (.int 17))) (aNil)))) (oNone) (oSome (mC (.int 5)))) (mAll kLstD (aCons (mAll kLen (aCons (mAll R_law_all (aCons (mVar 3) (aNil))) (aNil))) (aCons (m2 fAdd (mAll kLen (aCons (mAll R_law_all (aCons (mVar 3) (aNil))) (aNil))) (mC (.int 2))) (aNil)))))) (gN 4) (sSeq (sSet 5 (mIf (mT (m2 fLt (mVar 4) (mC (.int 17)))) (mAll R_law_due_k30 (aCons (mVar 4) (aCons (mVar 3) (aNil)))) (mC .non))) (sSeq (sFor (iRange1 (aCons (m2 fMul (mC (.int 2)) (mAll kInt2 (aCons (m2 fLt (mVar 4) (mC (.int 17))) (aNil)))) (aNil))) (gN 6) (sSeq (sSet 7 (mAll R_single (aCons (mVar 4) (aCons (mVar 3) (aNil))))) (sSeq (sIf (mOrT (mT (m2 (fEqD true) (m1 (fIsN false) (mVar 7)) (m1 (fIsN false) (mVar 5)))) (mAndT (mT (m1 (fIsN true) (mVar 7))) (mT (m2 (fEqD true) (mProp 0 R_Code_words (mVar 7)) (mVar 5))))) (sSeq (sRet (mC (.bl false))) (sNil)) (sNil)) (sNil)))) (sNil)))) (sNil))) (sNil)))) (sSeq (sRet (mC (.bl true))) (sNil))
def R_law_k30 : List Vl → Hs → Rs Vl := frame (fnRun 1 8 false (b_law_k30))
end Lw
end T41
section T42
set_option Elab.async false
set_option linter.all false
set_option maxRecDepth 100000
namespace Lw
open PySem PySem.Spec PyProof.Rows L2 EV
/-- what is kept of readings: by the words alone -/
def memoV (fs0 : List P) (i j : Int) : P := match me_seen [some (.p (.ins 0 fs0)), some (.p (.int i)), some (.p (.int j))] [] with
  | some (.ok (.p d), _) => d
  | _ => .non
theorem words_one {fs : List P} {a : P} (h0 : fs[0]? = some a) (h : Hs) : R_Code_words [.p (.ins 0 fs)] h = some (.ok (.p a), h) := by
  simp [R_Code_words, frame, pures, fnRun, b_Code_words, sSeq, sRet, mFld, mVar, bndS, bnd, EV.ret, fldV, h0, EV.backV]
theorem fnRun_ret {np n : Nat} {m : ME} {args : List Vl} {h : Hs} (hl : args.length = np) : fnRun np n false (sSeq (sRet m) sNil) args h = match m (args.map some ++ List.replicate (n - np) none) h with
    | none => none
    | some (.error c, h') => some (.error c, h'.take h.length)
    | some (.ok v, h') => EV.backV false h.length v h' := by
  unfold fnRun
  rw [if_pos hl]
  simp only [sSeq, sRet]
  cases m (args.map some ++ List.replicate (n - np) none) h with
  | none => rfl
  | some x => obtain ⟨r, s⟩ := x; cases r <;> rfl
theorem window_eq {fs fs0 : List P} {a : P} {i j : Int} (h0 : fs[0]? = some a) (h1 : fs0[0]? = some a) (h : Hs) : R_window_of [.p (.ins 0 fs), .p (.int i), .p (.int j)] h = R_window_of [.p (.ins 0 fs0), .p (.int i), .p (.int j)] h := by
  have key : fnRun 3 3 false b_window_of [.p (.ins 0 fs), .p (.int i), .p (.int j)] [] = fnRun 3 3 false b_window_of [.p (.ins 0 fs0), .p (.int i), .p (.int j)] [] := by
    unfold b_window_of
    rw [fnRun_ret (np := 3) (args := [.p (.ins 0 fs), .p (.int i), .p (.int j)]) rfl, fnRun_ret (np := 3) (args := [.p (.ins 0 fs0), .p (.int i), .p (.int j)]) rfl]
    simp [mProp, mCut, m2, oSome, mC, mVar, bnd, EV.ret, fldV, quiet, words_one h0, words_one h1]
  simp only [R_window_of, frame, pures, key]
theorem frame_pure {f : List Vl → Hs → Rs Vl} {args : List Vl} {ds : List P} (h : pures args = some ds) {s : Hs} {r : Except Exn Vl} {s' : Hs} (e : frame f args s = some (r, s')) : s' = s ∧ frame f args [] = some (r, []) ∧ ((∃ d, r = .ok (.p d)) ∨ ∃ c, r = .error c) := by
  unfold frame at e ⊢
  rw [h] at e ⊢
  dsimp only at e ⊢
  split at e
  · rename_i d q; cases e; exact ⟨rfl, rfl, .inl ⟨_, rfl⟩⟩
  · rename_i d q; cases e; exact ⟨rfl, rfl, .inr ⟨_, rfl⟩⟩
  · cases e
theorem seen_run {S : Sl} {h : Hs} {fs : List P} {i j : Int} (e0 : S[0]? = some (some (.p (.ins 0 fs)))) (e1 : S[1]? = some (some (.p (.int i)))) (e2 : S[2]? = some (some (.p (.int j)))) :
    me_seen S h = quiet (bnd (R_window_of [.p (.ins 0 fs), .p (.int i), .p (.int j)] h) fun v h1 => R_mixtures [v] h1) := by
  simp only [me_seen, mQ, mAll, aCons, aNil, mVar, e0, e1, e2, bnd, EV.ret]
  cases R_window_of [.p (.ins 0 fs), .p (.int i), .p (.int j)] h with
  | none => rfl
  | some x => obtain ⟨r, s⟩ := x; cases r <;> rfl
theorem memo_ok {T : Tb} (hm : T.memo = fun _ => memoV) : MemoOf T 0 2 0 1 2 me_seen := by
  intro S h c' fs i j c2 fs0 e0 e1 e2 ef ⟨a, ea, eb⟩ ec r h' e
  subst ec
  rw [seen_run e0 e1 e2] at e
  obtain ⟨e, v, rfl⟩ := quiet_some e
  rw [window_eq ea eb] at e
  rw [hm]
  show Except.ok v = Except.ok (Vl.p (memoV fs0 i j)) ∧ h' = h
  unfold memoV
  rw [seen_run (S := [some (.p (.ins 0 fs0)), some (.p (.int i)), some (.p (.int j))]) rfl rfl rfl]
  match q : R_window_of [.p (.ins 0 fs0), .p (.int i), .p (.int j)] h, e with
  | some (.ok w, s), e =>
    obtain ⟨rfl, q1, q2⟩ := frame_pure (f := fnRun 3 3 false b_window_of) (ds := [.ins 0 fs0, .int i, .int j]) rfl q
    have q1 : R_window_of [.p (.ins 0 fs0), .p (.int i), .p (.int j)] [] = some (.ok w, []) := q1
    rw [q1]
    obtain ⟨d, rfl⟩ : ∃ d, w = .p d := by
      rcases q2 with ⟨d, z⟩ | ⟨c, z⟩
      · cases z; exact ⟨d, rfl⟩
      · cases z
    have e : R_mixtures [.p d] s = some (.ok v, h') := e
    obtain ⟨rfl, q3, q4⟩ := frame_pure (f := fnRun 1 5 false b_mixtures) (ds := [d]) rfl e
    have q3 : R_mixtures [.p d] [] = some (.ok v, []) := q3
    have q5 : quiet (bnd (some (Except.ok (Vl.p d), [])) fun v h1 => R_mixtures [v] h1) = some (.ok v, []) := by
      show quiet (R_mixtures [.p d] []) = _
      rw [q3]; rfl
    rw [q5]
    obtain ⟨d2, rfl⟩ : ∃ d, v = .p d := by
      rcases q4 with ⟨d, z⟩ | ⟨c, z⟩
      · cases z; exact ⟨d, rfl⟩
      · cases z
    exact ⟨rfl, rfl⟩
/-- the ints of a tuple of the module -/
def intsB : List Int → List Value → Bool
  | [], [] => true
  | n :: ns, .int m _ :: us => decide (n = m) && intsB ns us
  | _, _ => false
theorem intsB_ok : ∀ {ns : List Int} {us : List Value}, intsB ns us = true → Vals (ns.map V.int) us
  | [], [], _ => .nil
  | n :: ns, .int m t :: us, h => by
    simp only [intsB, Bool.and_eq_true, decide_eq_true_eq] at h
    obtain ⟨rfl, h⟩ := h
    exact .cons ⟨t, rfl⟩ (intsB_ok h)
theorem intsB_len {ns : List Int} {a : Array Value} (h : intsB ns a.toList = true) (hl : ns.length ≤ 16777216) : a.size ≤ sizeLine := by
  have z : (ns.map V.int).length = a.toList.length := (intsB_ok h).length
  rw [List.length_map] at z
  have e : a.size = a.toList.length := (Array.length_toList).symm
  rw [e, ← z]; exact le_line hl
end Lw
end T42
section T43
set_option Elab.async false
set_option linter.all false
set_option maxRecDepth 100000
namespace Lw
open PySem PySem.Spec PyProof.Rows L2 EV
theorem ix0 : ixN 3 0 = some 0 := by decide
theorem ix1 : ixN 3 1 = some 1 := by decide
theorem ix2 : ixN 3 2 = some 2 := by decide
theorem frame_ref {f : List Vl → Hs → Rs Vl} {n : Nat} {r : List Vl} {h : Hs} : frame f (.ref n :: r) h = f (.ref n :: r) h := rfl
abbrev penL (a b c : Int) : P := .lst [.int a, .int b, .int c]
theorem cMul1 {i j : Int} (h0 : 0 ≤ i) (h1 : i < 2 ^ 64) : cMul i j = true := by
  unfold cMul
  rw [decide_eq_true (show -(2 ^ 64) < i by omega), decide_eq_true h1]; rfl
theorem cMul2 {i j : Int} (h0 : 0 ≤ j) (h1 : j < 2 ^ 64) : cMul i j = true := by
  unfold cMul
  rw [decide_eq_true (show -(2 ^ 64) < j by omega), decide_eq_true h1, Bool.and_self, Bool.or_true]
theorem draw_ok (n : Nat) (h : Hs) (a b c m : Int) (hm : 0 < m) (hm2 : m < 1073741824) (hn : h[n]? = some (penL a b c)) : ∃ r a' b' c', R_law_draw [.ref n, .p (.int m)] h = some (.ok (.p (.int r)), h.set n (penL a' b' c')) ∧ 0 ≤ r ∧ r < m := by
  have hl : n < h.length := (List.getElem?_eq_some_iff.mp hn).1
  have hfr : ∀ (r : List Vl) (h : Hs), R_law_draw (.ref n :: r) h = fnRun 2 4 false b_law_draw (.ref n :: r) h := fun r h => rfl
  rw [hfr]
  have hmm := Int.emod_nonneg
  have gs : ∀ p : P, (h.set n p)[n]? = some p := fun p => List.getElem?_set_self hl
  by_cases ha : 0 < a
  · refine ⟨a % m, a / m, b, c, ?_, Int.emod_nonneg _ (by omega), Int.emod_lt_of_pos _ hm⟩
    simp [fnRun, b_law_draw, fMul, sNil, sSeq, sIf, sSet, sSub, sRet, bndS, bnd, EV.ret, mT, m2, mVar, mC, fIdx, seqV, hn, ix0, fGt, ha, wSub, fMod, fDiv, fI2, hm, hm2, bT, EV.backV, List.take_of_length_le]
  · have q1 : ∀ x : Int, 0 ≤ x % 2147483647 ∧ x % 2147483647 < 2147483647 := fun x => ⟨Int.emod_nonneg _ (by decide), Int.emod_lt_of_pos _ (by decide)⟩
    have q2 : ∀ x : Int, 0 ≤ x % 2147483629 ∧ x % 2147483629 < 2147483629 := fun x => ⟨Int.emod_nonneg _ (by decide), Int.emod_lt_of_pos _ (by decide)⟩
    have w1 : ∀ x y : Int, cMul (x % 2147483647) y = true := fun x y => cMul1 (q1 x).1 (by have := (q1 x).2; omega)
    have w2 : ∀ x y : Int, cMul (x % 2147483629) y = true := fun x y => cMul1 (q2 x).1 (by have := (q2 x).2; omega)
    have w3 : ∀ x : Int, cMul x 48271 = true := fun x => cMul2 (by decide) (by decide)
    have w4 : ∀ x : Int, cMul 1009 x = true := fun x => cMul1 (by decide) (by decide)
    have w5 : ∀ x : Int, cMul 69621 x = true := fun x => cMul1 (by decide) (by decide)
    have w6 : ∀ x : Int, cMul 40014 x = true := fun x => cMul1 (by decide) (by decide)
    obtain ⟨b', eb⟩ : ∃ b', b' = (b * 48271 + 1009 * (c + 1) + 7) % 2147483647 := ⟨_, rfl⟩
    obtain ⟨d0, e0⟩ : ∃ d0, d0 = (b' * b' + 69621 * b' + 11) % 2147483629 := ⟨_, rfl⟩
    have w7 : ∀ y : Int, cMul b' y = true := fun y => by rw [eb]; exact w1 _ _
    have w8 : ∀ y : Int, cMul d0 y = true := fun y => by rw [e0]; exact w2 _ _
    refine ⟨(d0 * d0 + 40014 * d0) % 2147483587 / 16 % m, a, b', c + 1, ?_, Int.emod_nonneg _ (by omega), Int.emod_lt_of_pos _ hm⟩
    simp [fnRun, b_law_draw, fMul, sNil, sSeq, sIf, sSet, sSub, sRet, bndS, bnd, EV.ret, mT, m2, mVar, mC, fIdx, seqV, hn, ix0, ix1, ix2, fGt, ha, wSub, fMod, fDiv, fMulI, fAdd, pI, fI2, hm, hm2, bT, EV.backV, List.take_of_length_le, gs, w3, w4, w5, w6, ← eb, ← e0, w7, w8]

theorem perm_erase {α : Type} : ∀ {l : List α} {j : Nat} (h : j < l.length), (l[j] :: l.eraseIdx j).Perm l
  | x :: l, 0, h => by simp
  | x :: l, j + 1, h => by
    have ih := perm_erase (l := l) (j := j) (by simpa using h)
    simp only [List.getElem_cons_succ, List.eraseIdx_cons_succ]
    exact (List.Perm.swap x (l[j]'(by simpa using h)) _).trans (ih.cons x)
def popE : ME := mMethL fPopAt (mVar 2) (aCons (mAll R_law_draw (aCons (mVar 0) (aCons (mAll kLen (aCons (mVar 2) (aNil))) (aNil)))) (aNil))
theorem pop_ok (n : Nat) (h0 : Hs) (S : Sl) (a b c : Int) (R : List P) (hS0 : S[0]? = some (some (.ref n))) (hS2 : S[2]? = some (some (.ref h0.length))) (hn : h0[n]? = some (penL a b c)) (hR : R ≠ []) (hR2 : R.length ≤ 1000) :
    ∃ d a' b' c' R', popE S (h0 ++ [.lst R]) = some (.ok (.p d), h0.set n (penL a' b' c') ++ [.lst R']) ∧ (d :: R').Perm R ∧ R'.length + 1 = R.length := by
  have hl : n < h0.length := (List.getElem?_eq_some_iff.mp hn).1
  have pos : 0 < R.length := List.length_pos_iff.mpr hR
  have at1 : (h0 ++ [P.lst R])[n]? = some (penL a b c) := by rw [List.getElem?_append_left hl]; exact hn
  have at2 : (h0 ++ [P.lst R])[h0.length]? = some (.lst R) := by simp
  obtain ⟨r, a', b', c', e, r0, r1⟩ := draw_ok n (h0 ++ [.lst R]) a b c R.length (by omega) (by omega) at1
  have e2 : (h0 ++ [P.lst R]).set n (penL a' b' c') = h0.set n (penL a' b' c') ++ [.lst R] := by rw [List.set_append_left _ _ hl]
  rw [e2] at e
  have at3 : (h0.set n (penL a' b' c') ++ [P.lst R])[h0.length]? = some (.lst R) := by
    rw [List.getElem?_append_right (by simp)]; simp
  obtain ⟨j, hj⟩ : ∃ j : Nat, r = j := ⟨r.toNat, by omega⟩
  subst hj
  have hjl : j < R.length := by omega
  have hix : ixN R.length (j : Int) = some j := by
    unfold ixN
    rw [if_pos (by omega), if_pos (by omega)]; simp
  refine ⟨R[j], a', b', c', R.eraseIdx j, ?_, perm_erase hjl, by rw [List.length_eraseIdx_of_lt hjl]; omega⟩
  have hb : (j : Int) < 9223372036854775808 := by omega
  simp [popE, mMethL, bnd, EV.ret, mVar, hS0, hS2, isLstV, at2, aCons, aNil, mAll, kLen, seqV, pI, e, fPopAt, at3, hix, hjl, hb]

theorem comp_ok (n : Nat) (L : List P) (S : Sl) (hS : S.length = 4) : ∀ (k i : Nat) (h0 : Hs) (a b c : Int) (R : List P), k + i = L.length → R.length = k → R.length ≤ 1000 → S[0]? = some (some (.ref n)) → S[2]? = some (some (.ref h0.length)) → h0[n]? = some (penL a b c) →
    ∃ ys a' b' c' R', compL (gN 3) tYesM (popE) S (.d L) k i (h0 ++ [.lst R]) = some (.ok ys, h0.set n (penL a' b' c') ++ [.lst R']) ∧ ys.length = k ∧ ys.Perm R
  | 0, i, h0, a, b, c, R, hk, hR, _, _, _, hn => by
    refine ⟨[], a, b, c, R, ?_, rfl, by rw [List.length_eq_zero_iff.mp hR]⟩
    have e : L[i]? = none := List.getElem?_eq_none (by omega)
    have e2 : h0.set n (penL a b c) = h0 := by
      refine List.ext_getElem? fun m => ?_
      by_cases z : n = m
      · subst z; rw [List.getElem?_set_self (List.getElem?_eq_some_iff.mp hn).1, hn]
      · rw [List.getElem?_set_ne z]
    simp [compL, Itd.at, e, EV.ret, e2]
  | k + 1, i, h0, a, b, c, R, hk, hR, hR2, h1, h2, hn => by
    have il : i < L.length := by omega
    have S1 : (S.set 3 (some (.p L[i])))[0]? = some (some (.ref n)) := by rw [List.getElem?_set_ne (by decide)]; exact h1
    have S2 : (S.set 3 (some (.p L[i])))[2]? = some (some (.ref h0.length)) := by rw [List.getElem?_set_ne (by decide)]; exact h2
    obtain ⟨d, a', b', c', R', e, dp, len⟩ := pop_ok n h0 _ a b c R S1 S2 hn (by intro z; rw [z] at hR; simp at hR) hR2
    have hl : n < h0.length := (List.getElem?_eq_some_iff.mp hn).1
    obtain ⟨ys, a2, b2, c2, R2, e2, l2, m2⟩ := comp_ok n L S hS k (i + 1) (h0.set n (penL a' b' c')) a' b' c' R' (by omega) (by omega) (by omega) h1 (by simpa using h2) (List.getElem?_set_self hl)
    refine ⟨d :: ys, a2, b2, c2, R2, ?_, by simp [l2], (m2.cons d).trans dp⟩
    · have at' : (Itd.d L).at i (h0 ++ [.lst R]) = some (some L[i]) := by simp [Itd.at, il]
      have e3 : gN 3 L[i] S = some (S.set 3 (some (.p L[i]))) := rfl
      simp only [compL, at', e3, tYesM, EV.ret, noErr, bnd, e, if_true, e2]
      rw [List.set_set]
theorem mixed_ok (n : Nat) (h : Hs) (a b c : Int) (L : List P) (hL : L.length ≤ 1000) (hn : h[n]? = some (penL a b c)) :
    ∃ ys a' b' c', R_law_mixed [.ref n, .p (.lst L)] h = some (.ok (.p (.lst ys)), h.set n (penL a' b' c')) ∧ ys.length = L.length ∧ ys.Perm L := by
  have hl : n < h.length := (List.getElem?_eq_some_iff.mp hn).1
  have hfr : ∀ (r : List Vl) (h : Hs), R_law_mixed (.ref n :: r) h = fnRun 2 4 false b_law_mixed (.ref n :: r) h := fun r h => rfl
  rw [hfr]
  let S : Sl := [some (.ref n), some (.p (.lst L)), some (.ref h.length), none]
  obtain ⟨ys, a', b', c', R', e, l, m⟩ := comp_ok n L (wipeS S [3]) rfl L.length 0 h a b c L rfl rfl hL rfl rfl hn
  refine ⟨ys, a', b', c', ?_, l, m⟩
  have z : L.length ≤ 16777216 := by omega
  have e' : compL (gN 3) tYesM (mMethL fPopAt (mVar 2) (aCons (mAll (R_law_draw) (aCons (mVar 0) (aCons (mAll kLen (aCons (mVar 2) (aNil))) (aNil)))) (aNil))) (wipeS [some (.ref n), some (.p (.lst L)), some (.ref h.length), none] [3]) (.d L) L.length 0 (h ++ [.lst L]) = some (.ok ys, h.set n (penL a' b' c') ++ [.lst R']) := e
  simp [fnRun, b_law_mixed, sSeq, sSet, sRet, bndS, bnd, EV.ret, mVar, mAll, aCons, aNil, kListT, kLstT, seqV, seqP, EV.pures, z, mComp, iAny, iAnyK, iSeq, iSeqK, Itd.len, e', EV.backV]

theorem cell_ok (ns : List Int) (k : Nat) (h : Hs) : ∃ v : Int, R_law_cell_at [.p (.scr (ns.map .int)), .p (.int k)] h = some (.ok (.p (.int v)), h) := by
  by_cases hk : k < ns.length
  · refine ⟨ns[k], ?_⟩
    have ix : ixN ns.length (k : Int) = some k := by
      unfold ixN
      rw [if_pos (by omega), if_pos (by omega)]; simp
    simp [R_law_cell_at, frame, EV.pures, fnRun, b_law_cell_at, sSeq, sIf, sRet, sNil, bndS, bnd, EV.ret, mT, m2, mVar, mC, fIdx, seqV, seqP, mAll, aCons, aNil, kLen, pI, fLt, fI2, bT, EV.backV, hk, ix]
  · refine ⟨0, ?_⟩
    simp [R_law_cell_at, frame, EV.pures, fnRun, b_law_cell_at, sSeq, sIf, sRet, sNil, bndS, bnd, EV.ret, mT, m2, mVar, mC, fIdx, seqV, seqP, mAll, aCons, aNil, kLen, pI, fLt, fI2, bT, EV.backV, hk]
theorem pen_ok (v : Int) (h : Hs) : ∃ a b c : Int, R_law_pen [.p (.int v)] h = some (.ok (.ref h.length), h ++ [penL a b c]) := by
  refine ⟨if v - 1000000000000000000 > 0 then v - 1000000000000000000 else 0, v % 2147483629 + 1, 0, ?_⟩
  simp [R_law_pen, fnRun, b_law_pen, sSeq, sRet, sNil, bndS, bnd, EV.ret, m2, mVar, mC, mAll, aCons, aNil, kMax2, kI2, pI, fSub, fPow, fAdd, fMod, fI2, kLstT, EV.pures, EV.backV]
theorem cellpen_ok (ns : List Int) (k : Nat) {S : Sl} (h : Hs) (h0 : S[0]? = some (some (.p (.scr (ns.map .int))))) (h1 : S[1]? = some (some (.p (.int k)))) :
    ∃ a b c : Int, mAll R_law_pen (aCons (mAll R_law_cell_at (aCons (mVar 0) (aCons (mVar 1) (aNil)))) (aNil)) S h = some (.ok (.ref h.length), h ++ [penL a b c]) := by
  obtain ⟨v, ev⟩ := cell_ok ns k h
  obtain ⟨a, b, c, ep⟩ := pen_ok v h
  exact ⟨a, b, c, by simp [mAll, aCons, aNil, mVar, bnd, EV.ret, h0, h1, ev, ep]⟩
/-- what is called with data alone, at any heap -/
theorem frame_at {f : List Vl → Hs → Rs Vl} {args : List Vl} {ds : List P} {d : P} (h : pures args = some ds) (e : frame f args [] = some (.ok (.p d), [])) (s : Hs) : frame f args s = some (.ok (.p d), s) := by
  unfold frame at e ⊢
  rw [h] at e ⊢
  dsimp only at e ⊢
  split at e
  · rename_i d' q; cases e; rfl
  · cases e
  · cases e
/-- a run that ends with True -/
def isT (r : Rs Vl) : Bool := match r with
  | some (.ok (.p (.bl true)), []) => true
  | _ => false
theorem isT_eq {r : Rs Vl} (h : isT r = true) : r = some (.ok (.p (.bl true)), []) := by
  unfold isT at h
  split at h
  · rfl
  · cases h
/-! ### for k in range(max(1, min(len(script), c))) -/
theorem few_ok (c x : Int) (h0 : 0 ≤ x) (hc : 1 ≤ c) : ∃ m : Nat, ((m : Int) = if (if c < x then c else x) > 1 then (if c < x then c else x) else 1) ∧ (m : Int) ≤ c := by
  refine ⟨(if (if c < x then c else x) > 1 then (if c < x then c else x) else 1).toNat, ?_, ?_⟩ <;> (split <;> split <;> omega)
theorem rngA (c : Int) (ns : List Int) (x : Int) {S : Sl} {h : Hs} (h0 : S[0]? = some (some (.p (.scr (ns.map .int))))) (hx : x = if (if c < ns.length then c else ns.length) > 1 then (if c < ns.length then c else ns.length) else 1) :
    (aCons (mAll kMax2 (aCons (mC (.int 1)) (aCons (mAll kMin2 (aCons (mAll kLen (aCons (mVar 0) (aNil))) (aCons (mC (.int c)) (aNil)))) (aNil)))) (aNil)) S h = some (.ok [.p (.int x)], h) := by
  subst hx
  simp [aCons, aNil, mC, mAll, mVar, bnd, EV.ret, h0, kLen, seqV, seqP, pI, kMin2, kMax2, kI2]
theorem rngB {a : MA} {S : Sl} {h : Hs} {x : Int} (e : a S h = some (.ok [.p (.int x)], h)) (h0 : -(2 ^ 62) ≤ x) (h1 : x < 2 ^ 62) : iRange1 a S h = some (.ok (.d (intsP 0 x.toNat)), h) := by
  unfold iRange1
  rw [e]
  show (if -(2 ^ 62) ≤ x ∧ x < 2 ^ 62 then EV.ret (Itd.d (intsP 0 x.toNat)) h else none) = _
  rw [if_pos ⟨h0, h1⟩]
  rfl
theorem rngC (m : Nat) (h : m ≤ 1000000) : -(2 ^ 62) ≤ (m : Int) ∧ (m : Int) < 2 ^ 62 :=
  ⟨Int.le_trans (by decide : -(2 ^ 62) ≤ (0 : Int)) (Int.natCast_nonneg m), Int.lt_of_le_of_lt (show (m : Int) ≤ 1000000 by omega) (by decide)⟩
theorem forK_go (N n : Nat) (ns : List Int) {body : MS} (hN : 2 ≤ N) (hb : ∀ (k : Nat) (S : Sl) (h : Hs), S.length = N → S[0]? = some (some (.p (.scr (ns.map .int)))) → S[1]? = some (some (.p (.int k))) → ∃ S' h', body S h = some (.ok .nx, S', h') ∧ S'.length = N ∧ S'[0]? = S[0]?) :
    ∀ (k i : Nat) (S : Sl) (h : Hs), k + i = n → S.length = N → S[0]? = some (some (.p (.scr (ns.map .int)))) → ∃ S' h', forS (gN 1) body (.d (intsP 0 n)) k i S h = some (.ok .nx, S', h') ∧ S'.length = N ∧ S'[0]? = S[0]?
  | 0, i, S, h, hk, hl, _ => by
    have e : (intsP 0 n)[i]? = none := List.getElem?_eq_none (by simp [intsP]; omega)
    exact ⟨S, h, by simp [forS, Itd.at, e], hl, rfl⟩
  | k + 1, i, S, h, hk, hl, h0 => by
    have e : (intsP 0 n)[i]? = some (.int i) := by
      unfold intsP
      rw [List.getElem?_map, List.getElem?_range (by omega)]
      simp
    have s1 : (S.set 1 (some (.p (.int i))))[1]? = some (some (.p (.int (i : Int)))) := List.getElem?_set_self (by omega)
    have s0 : (S.set 1 (some (.p (.int i))))[0]? = some (some (.p (.scr (ns.map .int)))) := by rw [List.getElem?_set_ne (by decide)]; exact h0
    obtain ⟨S1, h1, e1, l1, z1⟩ := hb i _ h (by simp [hl]) s0 s1
    obtain ⟨S2, h2, e2, l2, z2⟩ := forK_go N n ns hN hb k (i + 1) S1 h1 (by omega) l1 (z1.trans s0)
    exact ⟨S2, h2, by simp only [forS, Itd.at, e, gN, e1, e2], l2, by rw [z2, z1, s0, h0]⟩
theorem forK_ok (N : Nat) (c : Int) (ns : List Int) {body : MS} (hN : 2 ≤ N) (hc : 1 ≤ c) (hc2 : c ≤ 1000000) (hb : ∀ (k : Nat) (S : Sl) (h : Hs), S.length = N → S[0]? = some (some (.p (.scr (ns.map .int)))) → S[1]? = some (some (.p (.int k))) → ∃ S' h', body S h = some (.ok .nx, S', h') ∧ S'.length = N ∧ S'[0]? = S[0]?)
    (S : Sl) (h : Hs) (hl : S.length = N) (h0 : S[0]? = some (some (.p (.scr (ns.map .int))))) :
    ∃ S' h', sFor (iRange1 (aCons (mAll kMax2 (aCons (mC (.int 1)) (aCons (mAll kMin2 (aCons (mAll kLen (aCons (mVar 0) (aNil))) (aCons (mC (.int c)) (aNil)))) (aNil)))) (aNil))) (gN 1) body S h = some (.ok .nx, S', h') ∧ S'.length = N ∧ S'[0]? = S[0]? := by
  obtain ⟨m, hm, hm2⟩ := few_ok c ns.length (by omega) hc
  obtain ⟨S', h', e, l, z⟩ := forK_go N m ns hN hb m 0 S h (Nat.add_zero m) hl h0
  have le : (intsP 0 m).length = m := by simp [intsP]
  have r := rngC m (by omega)
  refine ⟨S', h', ?_, l, z⟩
  simp only [sFor, rngB (rngA c ns m h0 hm) r.1 r.2, bndS, Itd.len, Int.toNat_natCast, le, e]
theorem law_run {np n : Nat} {b : MS} {x : Vl} {S' : Sl} {h' : Hs} (e : b ([some x] ++ List.replicate (n - 1) none) [] = some (.ok (.rt (.p (.bl true))), S', h')) : fnRun 1 n false b [x] [] = some (.ok (.p (.bl true)), []) := by
  simp only [fnRun, List.length_cons, List.length_nil, if_true, List.map_cons, List.map_nil]
  rw [e]
  simp [EV.backV]
end Lw
end T43
section T44
set_option Elab.async false
set_option linter.all false
set_option maxRecDepth 100000
namespace Lw
open PySem PySem.Spec PyProof.Rows L2 EV
/-! ### one step of a text at a time -/
section
variable {a b c : MS} {m m' x y z : ME} {t : MT} {ma : MA} {S S' : Sl} {h h' h1 h2 h3 : Hs} {v w u : Vl} {vs : List Vl} {i j l : Nat} {f : Vl → Vl → Hs → Rs Vl} {f1 : Vl → Hs → Rs Vl} {k : List Vl → Hs → Rs Vl} {r : RS}
theorem seq_nx (e : a S h = some (.ok .nx, S', h')) : sSeq a b S h = b S' h' := by unfold sSeq; rw [e]
theorem seq_rt (e : a S h = some (.ok (.rt v), S', h')) : sSeq a b S h = some (.ok (.rt v), S', h') := by unfold sSeq; rw [e]
theorem set_ok (e : m S h = some (.ok v, h')) : sSet i m S h = some (.ok .nx, S.set i (some v), h') := by unfold sSet; rw [e]; rfl
theorem ret_ok (e : m S h = some (.ok v, h')) : sRet m S h = some (.ok (.rt v), S, h') := by unfold sRet; rw [e]; rfl
theorem expr_ok (e : m S h = some (.ok v, h')) : sExpr m S h = some (.ok .nx, S, h') := by unfold sExpr; rw [e]; rfl
theorem if_tt (e : t S h = some (.ok true, h')) : sIf t a b S h = a S h' := by unfold sIf; rw [e]; rfl
theorem if_ff (e : t S h = some (.ok false, h')) : sIf t a b S h = b S h' := by unfold sIf; rw [e]; rfl
theorem par_ok (e : ma S h = some (.ok [v, w], h')) : sPar i j ma S h = some (.ok .nx, (S.set i (some v)).set j (some w), h') := by unfold sPar; rw [e]; rfl
theorem par3_ok (e : ma S h = some (.ok [u, v, w], h')) : sPar3 i j l ma S h = some (.ok .nx, ((S.set i (some u)).set j (some v)).set l (some w), h') := by unfold sPar3; rw [e]; rfl
theorem var_ok (e : S[i]? = some (some v)) : mVar i S h = some (.ok v, h) := by unfold mVar; rw [e]; rfl
theorem c_ok {d : P} : mC d S h = some (.ok (.p d), h) := rfl
theorem nil_ok : aNil S h = some (.ok [], h) := rfl
theorem cons_ok (e1 : x S h = some (.ok v, h1)) (e2 : ma S h1 = some (.ok vs, h2)) : aCons x ma S h = some (.ok (v :: vs), h2) := by unfold aCons; rw [e1]; simp only [bnd]; rw [e2]; rfl
theorem all_ok (e : ma S h = some (.ok vs, h')) : mAll k ma S h = k vs h' := by unfold mAll; rw [e]; rfl
theorem all1 (e : x S h = some (.ok v, h')) : mAll k (aCons x aNil) S h = k [v] h' := all_ok (cons_ok e nil_ok)
theorem all2 (e : x S h = some (.ok v, h1)) (e2 : y S h1 = some (.ok w, h2)) : mAll k (aCons x (aCons y aNil)) S h = k [v, w] h2 := all_ok (cons_ok e (cons_ok e2 nil_ok))
theorem all3 (e : x S h = some (.ok v, h1)) (e2 : y S h1 = some (.ok w, h2)) (e3 : z S h2 = some (.ok u, h3)) : mAll k (aCons x (aCons y (aCons z aNil))) S h = k [v, w, u] h3 := all_ok (cons_ok e (cons_ok e2 (cons_ok e3 nil_ok)))
theorem m2_ok (e : x S h = some (.ok v, h1)) (e2 : y S h1 = some (.ok w, h2)) : m2 f x y S h = f v w h2 := by unfold m2; rw [e]; simp only [bnd]; rw [e2]
theorem m1_ok (e : x S h = some (.ok v, h1)) : m1 f1 x S h = f1 v h1 := by unfold m1; rw [e]; rfl
theorem mT_ok {q : Bool} (e : x S h = some (.ok (.p (.bl q)), h1)) : mT x S h = some (.ok q, h1) := by unfold mT; rw [e]; rfl
theorem notT_ok {q : Bool} (e : t S h = some (.ok q, h1)) : mNotT t S h = some (.ok (!q), h1) := by unfold mNotT; rw [e]; rfl
end
/-! ### a def's run -/
theorem run_rt {np n : Nat} {args : List Vl} {b : MS} {S' : Sl} {h h' : Hs} {d : P} (hl : args.length = np) (e : b (args.map some ++ List.replicate (n - np) none) h = some (.ok (.rt (.p d)), S', h')) : fnRun np n false b args h = some (.ok (.p d), h'.take h.length) := by
  unfold fnRun; rw [if_pos hl, e]; rfl
/-- .. of one that is called with data alone -/
theorem frame_rt {np n : Nat} {args : List Vl} {ds : List P} {b : MS} {S' : Sl} {h' : Hs} {d : P} (hp : pures args = some ds) (hl : args.length = np) (e : b (args.map some ++ List.replicate (n - np) none) [] = some (.ok (.rt (.p d)), S', h')) (h : Hs) :
    frame (fnRun np n false b) args h = some (.ok (.p d), h) := by
  have e2 := run_rt (n := n) hl e
  have e3 : fnRun np n false b args [] = some (.ok (.p d), []) := by rw [e2]; simp
  unfold frame
  rw [hp]; simp only [e3]
/-! ### comprehensions over data -/
theorem compL_fm {g : MG} {tt : MT} {te : ME} {S0 : Sl} {L : List P} {h : Hs} (f : P → Option P) (hb : ∀ d ∈ L, ∃ S1, g d S0 = some S1 ∧ ((∃ y, f d = some y ∧ tt S1 h = some (.ok true, h) ∧ te S1 h = some (.ok (.p y), h)) ∨ (f d = none ∧ tt S1 h = some (.ok false, h)))) :
    ∀ k i, k + i = L.length → compL g tt te S0 (.d L) k i h = some (.ok ((L.drop i).filterMap f), h)
  | 0, i, hk => by
    have e : L[i]? = none := List.getElem?_eq_none (by omega)
    have e2 : L.drop i = [] := List.drop_eq_nil_of_le (by omega)
    simp [compL, Itd.at, e, e2, EV.ret]
  | k + 1, i, hk => by
    have hi : i < L.length := by omega
    have e : L[i]? = some L[i] := List.getElem?_eq_getElem hi
    obtain ⟨S1, e1, c⟩ := hb L[i] (List.getElem_mem hi)
    have ih := compL_fm f hb k (i + 1) (by omega)
    have ed : L.drop i = L[i] :: L.drop (i + 1) := List.drop_eq_getElem_cons hi
    rw [ed, List.filterMap_cons]
    rcases c with ⟨y, c1, c2, c3⟩ | ⟨c1, c2⟩
    · simp only [compL, Itd.at, e, e1, c2, noErr, bnd, if_true, c3, ih, c1, EV.ret]
    · simp only [compL, Itd.at, e, e1, c2, noErr, bnd, Bool.false_eq_true, if_false, ih, c1]
theorem comp_fm {mi : MI} {g : MG} {tt : MT} {te : ME} {vs : List Nat} {S : Sl} {L : List P} {h h' : Hs} (f : P → Option P) (hi : mi S h = some (.ok (.d L), h')) (hl : L.length ≤ 16777216)
    (hb : ∀ d ∈ L, ∃ S1, g d (wipeS S vs) = some S1 ∧ ((∃ y, f d = some y ∧ tt S1 h' = some (.ok true, h') ∧ te S1 h' = some (.ok (.p y), h')) ∨ (f d = none ∧ tt S1 h' = some (.ok false, h')))) : mComp mi g tt te vs S h = some (.ok (.p (.lst (L.filterMap f))), h') := by
  have e := compL_fm f hb L.length 0 (by omega)
  unfold mComp
  rw [hi]
  simp only [bnd, Itd.len, if_pos hl, e, EV.ret, List.drop_zero]
theorem comp_map {mi : MI} {g : MG} {te : ME} {vs : List Nat} {S : Sl} {L : List P} {h h' : Hs} (f : P → P) (hi : mi S h = some (.ok (.d L), h')) (hl : L.length ≤ 16777216)
    (hb : ∀ d ∈ L, ∃ S1, g d (wipeS S vs) = some S1 ∧ te S1 h' = some (.ok (.p (f d)), h')) : mComp mi g tYesM te vs S h = some (.ok (.p (.lst (L.map f))), h') := by
  have e := comp_fm (fun d => some (f d)) (tt := tYesM) hi hl fun d hd => by
    obtain ⟨S1, e1, e2⟩ := hb d hd
    exact ⟨S1, e1, .inl ⟨f d, rfl, rfl, e2⟩⟩
  rw [e, show (List.filterMap (fun d => some (f d)) L) = L.map f by induction L with | nil => rfl | cons d r ih => simp]
/-! ### loops over data, with an invariant -/
theorem forS_inv {g : MG} {body : MS} {L : List P} (I : Nat → Sl → Hs → Prop) (step : ∀ i d S h, L[i]? = some d → I i S h → ∃ S1 S' h', g d S = some S1 ∧ body S1 h = some (.ok .nx, S', h') ∧ I (i + 1) S' h') :
    ∀ k i S h, k + i = L.length → I i S h → ∃ S' h', forS g body (.d L) k i S h = some (.ok .nx, S', h') ∧ I L.length S' h'
  | 0, i, S, h, hk, hI => by
    have e : L[i]? = none := List.getElem?_eq_none (by omega)
    have : i = L.length := by omega
    subst this
    exact ⟨S, h, by simp [forS, Itd.at], hI⟩
  | k + 1, i, S, h, hk, hI => by
    have e : L[i]? = some (L[i]'(by omega)) := List.getElem?_eq_getElem _
    obtain ⟨S1, S2, h2, e1, e2, hI2⟩ := step i _ S h e hI
    obtain ⟨S3, h3, e3, hI3⟩ := forS_inv I step k (i + 1) S2 h2 (by omega) hI2
    exact ⟨S3, h3, by simp only [forS, Itd.at, e, e1, e2, e3], hI3⟩
theorem for_inv {mi : MI} {g : MG} {body : MS} {L : List P} {S : Sl} {h h' : Hs} (I : Nat → Sl → Hs → Prop) (hi : mi S h = some (.ok (.d L), h')) (h0 : I 0 S h') (step : ∀ i d S h, L[i]? = some d → I i S h → ∃ S1 S' h', g d S = some S1 ∧ body S1 h = some (.ok .nx, S', h') ∧ I (i + 1) S' h') :
    ∃ S' h2, sFor mi g body S h = some (.ok .nx, S', h2) ∧ I L.length S' h2 := by
  obtain ⟨S', h2, e, q⟩ := forS_inv I step L.length 0 S h' (by omega) h0
  refine ⟨S', h2, ?_, q⟩
  unfold sFor
  rw [hi]
  simp only [bndS, Itd.len, e]
theorem any_tup {m : ME} {S : Sl} {h h' : Hs} {L : List P} (e : m S h = some (.ok (.p (.tup L)), h')) : iAny m S h = some (.ok (.d L), h') := by unfold iAny; rw [e]; rfl
theorem any_lst {m : ME} {S : Sl} {h h' : Hs} {L : List P} (e : m S h = some (.ok (.p (.lst L)), h')) : iAny m S h = some (.ok (.d L), h') := by unfold iAny; rw [e]; rfl
theorem rng1 {m : ME} {S : Sl} {h : Hs} {n : Nat} (e : m S h = some (.ok (.p (.int n)), h)) (hn : n ≤ 1000000) : iRange1 (aCons m aNil) S h = some (.ok (.d (intsP 0 n)), h) := by
  have z := rngB (a := aCons m aNil) (cons_ok e nil_ok) (rngC n hn).1 (rngC n hn).2
  rw [z, Int.toNat_natCast]
theorem ints_len (n : Nat) : (intsP 0 n).length = n := by simp [intsP]
theorem ints_at {n i : Nat} (hi : i < n) : (intsP 0 n)[i]? = some (.int i) := by
  unfold intsP
  rw [List.getElem?_map, List.getElem?_range hi]; simp
theorem ints_mem {n : Nat} {d : P} (h : d ∈ intsP 0 n) : ∃ i : Nat, i < n ∧ d = .int i := by
  unfold intsP at h
  obtain ⟨k, hk, e⟩ := List.mem_map.mp h
  exact ⟨k, List.mem_range.mp hk, by rw [← e]; simp⟩
theorem idx_nat {ds : List P} {i : Nat} (hi : i < ds.length) : ixN ds.length (i : Int) = some i := by
  unfold ixN
  rw [if_pos (by omega), if_pos (by omega)]; simp
theorem fIdx_tup {ds : List P} {i : Nat} {d : P} {h : Hs} (e : ds[i]? = some d) : fIdx (.p (.tup ds)) (.p (.int i)) h = some (.ok (.p d), h) := by
  have hi := (List.getElem?_eq_some_iff.mp e).1
  simp [fIdx, seqV, seqP, idx_nat hi, e, EV.ret]
theorem fIdx_lst {ds : List P} {i : Nat} {d : P} {h : Hs} (e : ds[i]? = some d) : fIdx (.p (.lst ds)) (.p (.int i)) h = some (.ok (.p d), h) := by
  have hi := (List.getElem?_eq_some_iff.mp e).1
  simp [fIdx, seqV, seqP, idx_nat hi, e, EV.ret]
theorem len_tup {ds : List P} {h : Hs} : kLen [.p (.tup ds)] h = some (.ok (.p (.int ds.length)), h) := by simp [kLen, seqV, seqP, pI, EV.ret]
theorem len_lst {ds : List P} {h : Hs} : kLen [.p (.lst ds)] h = some (.ok (.p (.int ds.length)), h) := by simp [kLen, seqV, seqP, pI, EV.ret]
theorem tuple_lst {ds : List P} {h : Hs} : kTuple [.p (.lst ds)] h = some (.ok (.p (.tup ds)), h) := by simp [kTuple, lstV, EV.ret]
/-! ### words -/
abbrev wordsP (rs : List (List Int)) : P := .tup (rs.map mkT)
/-- words of a code -/
structure Wrds (rs : List (List Int)) (w : Nat) : Prop where
  lo : 2 ≤ rs.length
  hi : rs.length ≤ 16
  w0 : 1 ≤ w
  w1 : w ≤ 5
  wd : ∀ r ∈ rs, r.length = w
  bt : ∀ r ∈ rs, ∀ x ∈ r, x = 0 ∨ x = 1
  nd : rs.Nodup
end Lw
end T44
section T45
set_option Elab.async false
set_option linter.all false
set_option maxRecDepth 100000
namespace Lw
open PySem PySem.Spec PyProof.Rows L2 EV
theorem nums_map : ∀ r : List Int, nums (r.map .int) = some r
  | [] => rfl
  | x :: r => by simp only [List.map_cons, nums, nums_map r]
theorem tupI1_mk (r : List Int) : tupI1 (mkT r) = some r := nums_map r
theorem tupsI_map : ∀ rs : List (List Int), tupsI (rs.map mkT) = some rs
  | [] => rfl
  | r :: rs => by simp only [List.map_cons]; exact tupsI_mk (tupI1_mk r) (tupsI_map rs)
/-! ### the words that a law draws -/
def rowsB (lo hi : Nat) (rs : List (List Int)) (w : Nat) : Bool := decide (lo ≤ rs.length) && decide (rs.length ≤ hi) && decide (1 ≤ w) && decide (w ≤ 5) && rs.all (fun r => decide (r.length = w) && r.all (fun x => decide (x = 0 ∨ x = 1))) && decide rs.Nodup
theorem rowsB_ok {lo hi : Nat} {rs : List (List Int)} {w : Nat} (h : rowsB lo hi rs w = true) : lo ≤ rs.length ∧ rs.length ≤ hi ∧ 1 ≤ w ∧ w ≤ 5 ∧ (∀ r ∈ rs, r.length = w) ∧ (∀ r ∈ rs, ∀ x ∈ r, x = 0 ∨ x = 1) ∧ rs.Nodup := by
  unfold rowsB at h
  simp only [Bool.and_eq_true, decide_eq_true_eq, List.all_eq_true] at h
  obtain ⟨⟨⟨⟨⟨a, b⟩, c⟩, d⟩, e⟩, f⟩ := h
  exact ⟨a, b, c, d, fun r hr => (e r hr).1, fun r hr x hx => (e r hr).2 x hx, f⟩
def lstB (lo hi : Nat) (r : Rs Vl) : Bool := match r with
  | some (.ok (.p (.lst ds)), []) => match tupsI ds with
    | some rs => rowsB lo hi rs (rs.headD []).length
    | none => false
  | _ => false
theorem lstB_ok {lo hi : Nat} {r : Rs Vl} (h : lstB lo hi r = true) : ∃ (rs : List (List Int)) (w : Nat), r = some (.ok (.p (.lst (rs.map mkT))), []) ∧ lo ≤ rs.length ∧ rs.length ≤ hi ∧ 1 ≤ w ∧ w ≤ 5 ∧ (∀ r ∈ rs, r.length = w) ∧ (∀ r ∈ rs, ∀ x ∈ r, x = 0 ∨ x = 1) ∧ rs.Nodup := by
  unfold lstB at h
  split at h
  · rename_i ds
    split at h
    · rename_i rs q
      have e := tupsI_eq q
      subst e
      exact ⟨rs, _, rfl, rowsB_ok h⟩
    · cases h
  · cases h
theorem five {P : Int → Prop} (h1 : P 1) (h2 : P 2) (h3 : P 3) (h4 : P 4) (h5 : P 5) (m : Int) (a : 1 ≤ m) (b : m ≤ 5) : P m := by
  have c : m = 1 ∨ m = 2 ∨ m = 3 ∨ m = 4 ∨ m = 5 := by omega
  rcases c with z | z | z | z | z <;> subst z <;> assumption
theorem twB : ∀ m : Int, 1 ≤ m → m ≤ 5 → lstB 2 16 (R_law_twisted [.p (.int m)] []) = true := five (by decide +kernel) (by decide +kernel) (by decide +kernel) (by decide +kernel) (by decide +kernel)
theorem miB : ∀ m : Int, 1 ≤ m → m ≤ 5 → lstB 2 16 (R_law_mirror [.p (.int (if m < 4 then m else 4))] []) = true := five (by decide +kernel) (by decide +kernel) (by decide +kernel) (by decide +kernel) (by decide +kernel)
theorem loB : ∀ m : Int, 1 ≤ m → m ≤ 5 → lstB 2 16 (R_law_lone [.p (.int (if m > 2 then m else 2))] []) = true := five (by decide +kernel) (by decide +kernel) (by decide +kernel) (by decide +kernel) (by decide +kernel)
theorem alB : ∀ m : Int, 1 ≤ m → m ≤ 5 → lstB 2 32 (R_law_all [.p (.int m)] []) = true := five (by decide +kernel) (by decide +kernel) (by decide +kernel) (by decide +kernel) (by decide +kernel)
theorem Wrds.rot {rs : List (List Int)} {w : Nat} (W : Wrds rs w) (b : Nat) : Wrds (rs.drop b ++ rs.take b) w := by
  have p : (rs.drop b ++ rs.take b).Perm rs := List.perm_append_comm.trans (by rw [List.take_append_drop])
  exact ⟨by rw [p.length_eq]; exact W.lo, by rw [p.length_eq]; exact W.hi, W.w0, W.w1, fun r hr => W.wd r (p.subset hr), fun r hr => W.bt r (p.subset hr), p.nodup_iff.mpr W.nd⟩
/-- a row by a new order of its places, some of them turned -/
def newRow (w : Nat) (o : List Nat) (fl : List Int) (r : List Int) : List Int := (List.range w).map fun i => (r.getD (o.getD i 0) 0 + fl.getD i 0) % 2
theorem newRow_inj {w : Nat} {o : List Nat} {fl r s : List Int} (ho : o.Perm (List.range w)) (hr : r.length = w) (hs : s.length = w) (br : ∀ x ∈ r, x = 0 ∨ x = 1) (bs : ∀ x ∈ s, x = 0 ∨ x = 1) (e : newRow w o fl r = newRow w o fl s) : r = s := by
  have ol : o.length = w := by rw [ho.length_eq, List.length_range]
  refine List.ext_getElem (by omega) fun k hk hk2 => ?_
  have hm : k ∈ o := ho.mem_iff.mpr (List.mem_range.mpr (by omega))
  obtain ⟨i, hi, ei⟩ := List.getElem_of_mem hm
  have iw : i < w := by omega
  have e2 : (newRow w o fl r)[i]? = (newRow w o fl s)[i]? := by rw [e]
  unfold newRow at e2
  rw [List.getElem?_map, List.getElem?_map, List.getElem?_range iw] at e2
  have e3 := Option.some.inj e2
  have oi : o.getD i 0 = k := by rw [List.getD_eq_getElem?_getD, List.getElem?_eq_getElem hi, ei]; rfl
  have e3 : (r.getD (o.getD i 0) 0 + fl.getD i 0) % 2 = (s.getD (o.getD i 0) 0 + fl.getD i 0) % 2 := e3
  rw [oi, List.getD_eq_getElem?_getD (l := r), List.getD_eq_getElem?_getD (l := s), List.getElem?_eq_getElem hk, List.getElem?_eq_getElem hk2] at e3
  have e3 : (r[k] + fl.getD i 0) % 2 = (s[k] + fl.getD i 0) % 2 := e3
  have b1 := br _ (List.getElem_mem hk)
  have b2 := bs _ (List.getElem_mem hk2)
  omega
theorem nodup_map_on {α β : Type} {f : α → β} {l : List α} (h : ∀ x ∈ l, ∀ y ∈ l, f x = f y → x = y) (nd : l.Nodup) : (l.map f).Nodup := nodup_map' h nd
theorem Wrds.new {rs : List (List Int)} {w : Nat} (W : Wrds rs w) {o : List Nat} {fl : List Int} (ho : o.Perm (List.range w)) : Wrds (rs.map (newRow w o fl)) w := by
  refine ⟨by simpa using W.lo, by simpa using W.hi, W.w0, W.w1, fun r hr => ?_, fun r hr x hx => ?_, nodup_map_on (fun x hx y hy e => newRow_inj ho (W.wd x hx) (W.wd y hy) (W.bt x hx) (W.bt y hy) e) W.nd⟩
  · obtain ⟨s, hs, e⟩ := List.mem_map.mp hr
    rw [← e]; simp [newRow]
  · obtain ⟨s, hs, e⟩ := List.mem_map.mp hr
    rw [← e] at hx
    obtain ⟨i, hi, e2⟩ := List.mem_map.mp hx
    rw [← e2]; omega
/-! ### what is drawn, one after the other -/
theorem set_same {h : Hs} {n : Nat} {p : P} (e : h[n]? = some p) : h.set n p = h := by
  refine List.ext_getElem? fun m => ?_
  by_cases z : n = m
  · subst z; rw [List.getElem?_set_self (List.getElem?_eq_some_iff.mp e).1, e]
  · rw [List.getElem?_set_ne z]
theorem flips_go (n : Nat) (L : List P) (S : Sl) (h0 : S[0]? = some (some (.ref n))) : ∀ (k i : Nat) (h : Hs) (a b c : Int), k + i = L.length → h[n]? = some (penL a b c) →
    ∃ (fl : List Int) (a' b' c' : Int), compL (gN 7) tYesM (mAll R_law_draw (aCons (mVar 0) (aCons (mC (.int 2)) (aNil)))) S (.d L) k i h = some (.ok (fl.map .int), h.set n (penL a' b' c')) ∧ fl.length = k
  | 0, i, h, a, b, c, hk, hn => by
    have e : L[i]? = none := List.getElem?_eq_none (by omega)
    exact ⟨[], a, b, c, by simp [compL, Itd.at, e, EV.ret, set_same hn], rfl⟩
  | k + 1, i, h, a, b, c, hk, hn => by
    have hl : n < h.length := (List.getElem?_eq_some_iff.mp hn).1
    have e : L[i]? = some (L[i]'(by omega)) := List.getElem?_eq_getElem _
    obtain ⟨r, a1, b1, c1, e1, _, _⟩ := draw_ok n h a b c 2 (by decide) (by decide) hn
    obtain ⟨fl, a2, b2, c2, e2, l2⟩ := flips_go n L S h0 k (i + 1) (h.set n (penL a1 b1 c1)) a1 b1 c1 (by omega) (List.getElem?_set_self hl)
    refine ⟨r :: fl, a2, b2, c2, ?_, by simp [l2]⟩
    have s0 : (S.set 7 (some (.p (L[i]'(by omega)))))[0]? = some (some (.ref n)) := by rw [List.getElem?_set_ne (by decide)]; exact h0
    have e3 : mAll R_law_draw (aCons (mVar 0) (aCons (mC (.int 2)) (aNil))) (S.set 7 (some (.p (L[i]'(by omega))))) h = some (.ok (.p (.int r)), h.set n (penL a1 b1 c1)) := by
      rw [all2 (var_ok s0) c_ok]; exact e1
    simp only [compL, Itd.at, e, gN, tYesM, EV.ret, noErr, bnd, e3, if_true, e2, List.map_cons]
    rw [List.set_set]
theorem cut_lo {ds : List P} {b : Nat} : cutP ds none (some (b : Int)) = ds.take b := by
  unfold cutP
  rw [HT.sIx_none, HT.sIx_nat, List.drop_zero, Nat.sub_zero]
  by_cases h : b ≤ ds.length
  · rw [Nat.min_eq_left h]
  · rw [Nat.min_eq_right (by omega), List.take_of_length_le (Nat.le_refl _), List.take_of_length_le (by omega)]
theorem cut_hi {ds : List P} {b : Nat} (h : b ≤ ds.length) : cutP ds (some (b : Int)) none = ds.drop b := by
  unfold cutP
  rw [HT.sIx_none, HT.sIx_nat, Nat.min_eq_left h, List.take_of_length_le (by simp)]
/-! ### _law_words -/
theorem seqN {a : MS} {S : Sl} {h : Hs} : sSeq a sNil S h = a S h := by
  unfold sSeq
  match a S h with
  | none => rfl
  | some (.error c, S', h') => rfl
  | some (.ok .nx, S', h') => rfl
  | some (.ok .bk, S', h') => rfl
  | some (.ok .ct, S', h') => rfl
  | some (.ok (.rt v), S', h') => rfl
abbrev wMix : MS := (sSeq (sSet 5 (mAll R_law_mixed (aCons (mVar 0) (aCons (mAll R_law_all (aCons (mVar 2) (aNil))) (aNil))))) (sSeq (sSet 4 (mCut (mVar 5) (oNone) (oSome (m2 fAdd (mC (.int 2)) (mAll R_law_draw (aCons (mVar 0) (aCons (m2 fSub (mAll kMin2 (aCons (mC (.int 16)) (aCons (mAll kLen (aCons (mVar 5) (aNil))) (aNil)))) (mC (.int 1))) (aNil)))))))) (sNil)))
abbrev wTw : MS := (sSeq (sSet 4 (mAll R_law_twisted (aCons (mVar 2) (aNil)))) (sNil))
abbrev wMi : MS := (sSeq (sSet 4 (mAll R_law_mirror (aCons (mAll kMin2 (aCons (mC (.int 4)) (aCons (mVar 2) (aNil)))) (aNil)))) (sNil))
abbrev wLo : MS := (sSeq (sSet 4 (mAll R_law_lone (aCons (mAll kMax2 (aCons (mC (.int 2)) (aCons (mVar 2) (aNil)))) (aNil)))) (sNil))
abbrev wSort : MS := (sIf (mT (m2 (fEqD false) (mVar 3) (mC (.int 0)))) wTw (sSeq (sIf (mT (m2 (fEqD false) (mVar 3) (mC (.int 1)))) wMi (sSeq (sIf (mT (m2 (fEqD false) (mVar 3) (mC (.int 2)))) wLo wMix) (sNil))) (sNil)))
theorem eqI {i j : Int} {h : Hs} : fEqD false (.p (.int i)) (.p (.int j)) h = some (.ok (.p (.bl (decide (i = j)))), h) := by
  have sh : ∀ i : Int, SeqAt.shaped (.int i) = true := fun i => rfl
  have ev : PyData.eqv (.int i) (.int j) = decide (i = j) := by
    show (i == j) = decide (i = j)
    by_cases e : i = j <;> simp [e]
  show (if SeqAt.shaped (.int i) = true ∧ SeqAt.shaped (.int j) = true then pB (if false then !PyData.eqv (.int i) (.int j) else PyData.eqv (.int i) (.int j)) h else none) = _
  rw [if_pos ⟨sh i, sh j⟩, ev]
  rfl
/-- what the four ways give -/
def SortR (n : Nat) (h : Hs) (r : RS) : Prop := ∃ (rs : List (List Int)) (w : Nat) (S' : Sl) (a' b' c' : Int), r = some (.ok .nx, S', h.set n (penL a' b' c')) ∧ Wrds rs w ∧ S'.length = 12 ∧ S'[0]? = some (some (.ref n)) ∧ S'[4]? = some (some (.p (.lst (rs.map mkT))))
section
variable {n : Nat} {S : Sl} {h : Hs} {a b c m t : Int}
theorem up4 (hl : S.length = 12) (h0 : S[0]? = some (some (.ref n))) (x : Vl) : (S.set 4 (some x)).length = 12 ∧ (S.set 4 (some x))[0]? = some (some (.ref n)) ∧ (S.set 4 (some x))[4]? = some (some x) :=
  ⟨by simp [hl], by rw [List.getElem?_set_ne (by decide)]; exact h0, List.getElem?_set_self (by omega)⟩
theorem wLst {r : Rs Vl} (k : lstB 2 16 r = true) : ∃ (rs : List (List Int)) (w : Nat), r = some (.ok (.p (.lst (rs.map mkT))), []) ∧ Wrds rs w := by
  obtain ⟨rs, w, e, q⟩ := lstB_ok k
  exact ⟨rs, w, e, q.1, q.2.1, q.2.2.1, q.2.2.2.1, q.2.2.2.2.1, q.2.2.2.2.2.1, q.2.2.2.2.2.2⟩
theorem tw_ok (hl : S.length = 12) (h0 : S[0]? = some (some (.ref n))) (h2 : S[2]? = some (some (.p (.int m)))) (m1 : 1 ≤ m) (m5 : m ≤ 5) (hn : h[n]? = some (penL a b c)) : SortR n h (wTw S h) := by
  obtain ⟨rs, w, e, W⟩ := wLst (twB m m1 m5)
  have e2 : R_law_twisted [.p (.int m)] h = some (.ok (.p (.lst (rs.map mkT))), h) := frame_at (ds := [.int m]) rfl e h
  refine ⟨rs, w, _, a, b, c, ?_, W, up4 hl h0 _⟩
  rw [set_same hn]
  exact seq_nx (set_ok (by rw [all1 (var_ok h2)]; exact e2))
theorem mi_ok (hl : S.length = 12) (h0 : S[0]? = some (some (.ref n))) (h2 : S[2]? = some (some (.p (.int m)))) (m1 : 1 ≤ m) (m5 : m ≤ 5) (hn : h[n]? = some (penL a b c)) : SortR n h (wMi S h) := by
  obtain ⟨rs, w, e, W⟩ := wLst (miB m m1 m5)
  have e2 : R_law_mirror [.p (.int (if m < 4 then m else 4))] h = some (.ok (.p (.lst (rs.map mkT))), h) := frame_at (ds := [.int (if m < 4 then m else 4)]) rfl e h
  have e3 : mAll kMin2 (aCons (mC (.int 4)) (aCons (mVar 2) (aNil))) S h = some (.ok (.p (.int (if m < 4 then m else 4))), h) := by rw [all2 c_ok (var_ok h2)]; rfl
  refine ⟨rs, w, _, a, b, c, ?_, W, up4 hl h0 _⟩
  rw [set_same hn]
  exact seq_nx (set_ok (by rw [all1 e3]; exact e2))
theorem lo_ok (hl : S.length = 12) (h0 : S[0]? = some (some (.ref n))) (h2 : S[2]? = some (some (.p (.int m)))) (m1 : 1 ≤ m) (m5 : m ≤ 5) (hn : h[n]? = some (penL a b c)) : SortR n h (wLo S h) := by
  obtain ⟨rs, w, e, W⟩ := wLst (loB m m1 m5)
  have e2 : R_law_lone [.p (.int (if m > 2 then m else 2))] h = some (.ok (.p (.lst (rs.map mkT))), h) := frame_at (ds := [.int (if m > 2 then m else 2)]) rfl e h
  have e3 : mAll kMax2 (aCons (mC (.int 2)) (aCons (mVar 2) (aNil))) S h = some (.ok (.p (.int (if m > 2 then m else 2))), h) := by rw [all2 c_ok (var_ok h2)]; rfl
  refine ⟨rs, w, _, a, b, c, ?_, W, up4 hl h0 _⟩
  rw [set_same hn]
  exact seq_nx (set_ok (by rw [all1 e3]; exact e2))
theorem mix_ok (hl : S.length = 12) (h0 : S[0]? = some (some (.ref n))) (h2 : S[2]? = some (some (.p (.int m)))) (m1 : 1 ≤ m) (m5 : m ≤ 5) (hn : h[n]? = some (penL a b c)) : SortR n h (wMix S h) := by
  obtain ⟨rs, w, e, q⟩ := lstB_ok (alB m m1 m5)
  have hnl : n < h.length := (List.getElem?_eq_some_iff.mp hn).1
  have e2 : R_law_all [.p (.int m)] h = some (.ok (.p (.lst (rs.map mkT))), h) := frame_at (ds := [.int m]) rfl e h
  obtain ⟨ys, a1, b1, c1, e3, l3, p3⟩ := mixed_ok n h a b c (rs.map mkT) (by have := q.2.1; simp; omega) hn
  obtain ⟨rs', e4, p4⟩ := tupsI_perm p3 (tupsI_map rs)
  have e5 := tupsI_eq e4
  subst e5
  have l4 := p4.length_eq
  let x : Int := (if ((rs'.map mkT).length : Int) < 16 then ((rs'.map mkT).length : Int) else 16) - 1
  have hx : x = (if (rs'.length : Int) < 16 then (rs'.length : Int) else 16) - 1 := by simp [x]
  have q1 := q.1
  have x1 : 0 < x := by rw [hx]; split <;> omega
  have x2 : x < 1073741824 := by rw [hx]; split <;> omega
  obtain ⟨r, a2, b2, c2, e6, r0, r1⟩ := draw_ok n (h.set n (penL a1 b1 c1)) a1 b1 c1 x x1 x2 (List.getElem?_set_self hnl)
  obtain ⟨k, hk⟩ : ∃ k : Nat, (k : Int) = 2 + r := ⟨(2 + r).toNat, by omega⟩
  have kl : k ≤ rs'.length ∧ k ≤ 16 ∧ 2 ≤ k := by rw [hx] at r1; split at r1 <;> omega
  have s5 : ∀ y : Vl, (S.set 5 (some y))[5]? = some (some y) := fun y => List.getElem?_set_self (by omega)
  have s0 : ∀ y : Vl, (S.set 5 (some y))[0]? = some (some (.ref n)) := fun y => by rw [List.getElem?_set_ne (by decide)]; exact h0
  refine ⟨rs'.take k, w, (S.set 5 (some (.p (.lst (rs'.map mkT))))).set 4 (some (.p (.lst ((rs'.take k).map mkT)))), a2, b2, c2, ?_, ⟨?_, ?_, q.2.2.1, q.2.2.2.1, ?_, ?_, ?_⟩, up4 (by simp [hl]) (s0 _) _⟩
  · have f1 : sSet 5 (mAll R_law_mixed (aCons (mVar 0) (aCons (mAll R_law_all (aCons (mVar 2) (aNil))) (aNil)))) S h = some (.ok .nx, S.set 5 (some (.p (.lst (rs'.map mkT)))), h.set n (penL a1 b1 c1)) :=
      set_ok (by rw [all2 (var_ok h0) (by rw [all1 (var_ok h2)]; exact e2)]; exact e3)
    refine (seq_nx f1).trans ?_
    have g1 : mAll kMin2 (aCons (mC (.int 16)) (aCons (mAll kLen (aCons (mVar 5) (aNil))) (aNil))) (S.set 5 (some (.p (.lst (rs'.map mkT))))) (h.set n (penL a1 b1 c1)) = some (.ok (.p (.int (if ((rs'.map mkT).length : Int) < 16 then ((rs'.map mkT).length : Int) else 16))), h.set n (penL a1 b1 c1)) := by
      rw [all2 c_ok (by rw [all1 (var_ok (s5 _))]; exact len_lst)]; rfl
    have g2 : m2 fSub (mAll kMin2 (aCons (mC (.int 16)) (aCons (mAll kLen (aCons (mVar 5) (aNil))) (aNil)))) (mC (.int 1)) (S.set 5 (some (.p (.lst (rs'.map mkT))))) (h.set n (penL a1 b1 c1)) = some (.ok (.p (.int x)), h.set n (penL a1 b1 c1)) := by
      rw [m2_ok g1 c_ok]; rfl
    have g3 : m2 fAdd (mC (.int 2)) (mAll R_law_draw (aCons (mVar 0) (aCons (m2 fSub (mAll kMin2 (aCons (mC (.int 16)) (aCons (mAll kLen (aCons (mVar 5) (aNil))) (aNil)))) (mC (.int 1))) (aNil)))) (S.set 5 (some (.p (.lst (rs'.map mkT))))) (h.set n (penL a1 b1 c1)) = some (.ok (.p (.int (k : Int))), h.set n (penL a2 b2 c2)) := by
      rw [m2_ok c_ok (by rw [all2 (var_ok (s0 _)) g2]; exact e6), hk, List.set_set]; rfl
    refine (seqN).trans (set_ok ?_)
    unfold mCut
    rw [var_ok (s5 _)]
    simp only [bnd, oNone, oSome, g3, EV.ret]
    show fCut (.p (.lst (rs'.map mkT))) none (some (k : Int)) _ = _
    simp only [fCut, EV.ret, cut_lo, ← List.map_take]
  · simp; omega
  · simp; omega
  · exact fun r hr => q.2.2.2.2.1 r (p4.subset (List.mem_of_mem_take hr))
  · exact fun r hr => q.2.2.2.2.2.1 r (p4.subset (List.mem_of_mem_take hr))
  · exact (p4.nodup_iff.mpr q.2.2.2.2.2.2).sublist (List.take_sublist _ _)
theorem sort_ok (hl : S.length = 12) (h0 : S[0]? = some (some (.ref n))) (h2 : S[2]? = some (some (.p (.int m)))) (h3 : S[3]? = some (some (.p (.int t)))) (m1 : 1 ≤ m) (m5 : m ≤ 5) (hn : h[n]? = some (penL a b c)) : SortR n h (wSort S h) := by
  have ts : ∀ j : Int, mT (m2 (fEqD false) (mVar 3) (mC (.int j))) S h = some (.ok (decide (t = j)), h) := fun j => mT_ok (by rw [m2_ok (var_ok h3) c_ok]; exact eqI)
  have tt : ∀ j : Int, t = j → mT (m2 (fEqD false) (mVar 3) (mC (.int j))) S h = some (.ok true, h) := fun j z => by rw [ts j, decide_eq_true z]
  have tf : ∀ j : Int, t ≠ j → mT (m2 (fEqD false) (mVar 3) (mC (.int j))) S h = some (.ok false, h) := fun j z => by rw [ts j, decide_eq_false z]
  by_cases t0 : t = 0
  · rw [show wSort S h = wTw S h from if_tt (tt 0 t0)]; exact tw_ok hl h0 h2 m1 m5 hn
  by_cases t1 : t = 1
  · rw [show wSort S h = wMi S h from (if_ff (tf 0 t0)).trans (seqN.trans (if_tt (tt 1 t1)))]; exact mi_ok hl h0 h2 m1 m5 hn
  by_cases t2 : t = 2
  · rw [show wSort S h = wLo S h from (if_ff (tf 0 t0)).trans (seqN.trans ((if_ff (tf 1 t1)).trans (seqN.trans (if_tt (tt 2 t2)))))]; exact lo_ok hl h0 h2 m1 m5 hn
  · rw [show wSort S h = wMix S h from (if_ff (tf 0 t0)).trans (seqN.trans ((if_ff (tf 1 t1)).trans (seqN.trans (if_ff (tf 2 t2)))))]; exact mix_ok hl h0 h2 m1 m5 hn
end
/-! ### the rest of it -/
theorem fMod_ok {i j : Int} {h : Hs} (p : 0 < j) (l : j < 1073741824) : fMod (.p (.int i)) (.p (.int j)) h = some (.ok (.p (.int (i % j))), h) := by
  simp [fMod, fI2, EV.ret, p, l]
abbrev wRow : ME := (mAll kTuple (aCons (mComp (iRange1 (aCons (mVar 6) (aNil))) (gN 7) (tYesM) (m2 fMod (m2 fAdd (m2 fIdx (mVar 11) (m2 fIdx (mVar 8) (mVar 7))) (m2 fIdx (mVar 9) (mVar 7))) (mC (.int 2))) [7]) (aNil)))
abbrev wNew : ME := (mComp (iAny (mVar 4)) (gN 11) (tYesM) wRow [11])
theorem getD_map_int {r : List Int} {k : Nat} (hk : k < r.length) : (r.map P.int)[k]? = some (.int (r.getD k 0)) := by
  rw [List.getElem?_map, List.getElem?_eq_getElem hk, List.getD_eq_getElem?_getD, List.getElem?_eq_getElem hk]; rfl
theorem getD_map_nat {o : List Nat} {k : Nat} (hk : k < o.length) : (o.map fun (j : Nat) => P.int j)[k]? = some (.int ((o.getD k 0 : Nat) : Int)) := by
  rw [List.getElem?_map, List.getElem?_eq_getElem hk, List.getD_eq_getElem?_getD, List.getElem?_eq_getElem hk]; rfl
section
variable {w : Nat} {o : List Nat} {fl r : List Int} {S : Sl} {h : Hs}
theorem row_ok (hw : w ≤ 5) (ho : o.Perm (List.range w)) (hf : fl.length = w) (hr : r.length = w) (hS : S.length = 12) (h6 : S[6]? = some (some (.p (.int w)))) (h8 : S[8]? = some (some (.p (.lst (o.map fun (j : Nat) => P.int j))))) (h9 : S[9]? = some (some (.p (.lst (fl.map .int)))))
    (h11 : S[11]? = some (some (.p (mkT r)))) : wRow S h = some (.ok (.p (mkT (newRow w o fl r))), h) := by
  have ol : o.length = w := by rw [ho.length_eq, List.length_range]
  let f : P → P := fun d => match d with
    | .int i => .int ((r.getD (o.getD i.toNat 0) 0 + fl.getD i.toNat 0) % 2)
    | _ => .non
  have g : mComp (iRange1 (aCons (mVar 6) (aNil))) (gN 7) (tYesM) (m2 fMod (m2 fAdd (m2 fIdx (mVar 11) (m2 fIdx (mVar 8) (mVar 7))) (m2 fIdx (mVar 9) (mVar 7))) (mC (.int 2))) [7] S h = some (.ok (.p (.lst ((intsP 0 w).map f))), h) := by
    refine comp_map f (rng1 (var_ok h6) (by omega)) (by rw [ints_len]; omega) fun d hd => ⟨_, rfl, ?_⟩
    obtain ⟨i, hi, rfl⟩ := ints_mem hd
    have u7 : ((wipeS S [7]).set 7 (some (.p (.int i))))[7]? = some (some (.p (.int (i : Int)))) := List.getElem?_set_self (by simp [wipeS, hS])
    have ne : ∀ j x, j ≠ 7 → S[j]? = some (some x) → ((wipeS S [7]).set 7 (some (.p (.int i))))[j]? = some (some x) := fun j x hj e => by
      rw [List.getElem?_set_ne (fun z => hj z.symm)]
      show (S.set 7 none)[j]? = _
      rw [List.getElem?_set_ne (fun z => hj z.symm)]; exact e
    have oi : o.getD i 0 < w := by
      have : o.getD i 0 ∈ o := by rw [List.getD_eq_getElem?_getD, List.getElem?_eq_getElem (by omega)]; exact List.getElem_mem _
      exact List.mem_range.mp (ho.subset this)
    have e1 : m2 fIdx (mVar 8) (mVar 7) ((wipeS S [7]).set 7 (some (.p (.int i)))) h = some (.ok (.p (.int ((o.getD i 0 : Nat) : Int))), h) := by
      rw [m2_ok (var_ok (ne 8 _ (by decide) h8)) (var_ok u7)]; exact fIdx_lst (getD_map_nat (by omega))
    have e2 : m2 fIdx (mVar 11) (m2 fIdx (mVar 8) (mVar 7)) ((wipeS S [7]).set 7 (some (.p (.int i)))) h = some (.ok (.p (.int (r.getD (o.getD i 0) 0))), h) := by
      rw [m2_ok (var_ok (ne 11 _ (by decide) h11)) e1]; exact fIdx_tup (getD_map_int (by omega))
    have e3 : m2 fIdx (mVar 9) (mVar 7) ((wipeS S [7]).set 7 (some (.p (.int i)))) h = some (.ok (.p (.int (fl.getD i 0))), h) := by
      rw [m2_ok (var_ok (ne 9 _ (by decide) h9)) (var_ok u7)]; exact fIdx_lst (getD_map_int (by omega))
    rw [m2_ok (by rw [m2_ok e2 e3]; rfl) c_ok]
    simp [fMod, fI2, EV.ret, f]
  refine (all1 g).trans ?_
  rw [tuple_lst]
  have e : (intsP 0 w).map f = (newRow w o fl r).map .int := by
    simp [intsP, newRow, List.map_map, f, Function.comp_def]
  rw [e]; rfl
theorem new_ok {rs : List (List Int)} (W : Wrds rs w) (ho : o.Perm (List.range w)) (hf : fl.length = w) (hS : S.length = 12) (h4 : S[4]? = some (some (.p (.lst (rs.map mkT))))) (h6 : S[6]? = some (some (.p (.int w)))) (h8 : S[8]? = some (some (.p (.lst (o.map fun (j : Nat) => P.int j))))) (h9 : S[9]? = some (some (.p (.lst (fl.map .int))))) :
    wNew S h = some (.ok (.p (.lst ((rs.map (newRow w o fl)).map mkT))), h) := by
  let f : P → P := fun d => match tupI1 d with
    | some r => mkT (newRow w o fl r)
    | none => .non
  have g := comp_map (vs := [11]) (te := wRow) (g := gN 11) f (any_lst (var_ok (h := h) h4)) (by have := W.hi; simp; omega) fun d hd => by
    obtain ⟨r, hr, rfl⟩ := List.mem_map.mp hd
    refine ⟨_, rfl, ?_⟩
    have ne : ∀ j x, j ≠ 11 → S[j]? = some (some x) → ((wipeS S [11]).set 11 (some (.p (mkT r))))[j]? = some (some x) := fun j x hj e => by
      rw [List.getElem?_set_ne (fun z => hj z.symm)]
      show (S.set 11 none)[j]? = _
      rw [List.getElem?_set_ne (fun z => hj z.symm)]; exact e
    have e := row_ok (S := (wipeS S [11]).set 11 (some (.p (mkT r)))) (h := h) W.w1 ho hf (W.wd r hr) (by simp [wipeS, hS]) (ne 6 _ (by decide) h6) (ne 8 _ (by decide) h8) (ne 9 _ (by decide) h9) (List.getElem?_set_self (by simp [wipeS, hS]))
    rw [e]
    simp only [f, tupI1_mk]
  refine g.trans ?_
  have e : (rs.map mkT).map f = (rs.map (newRow w o fl)).map mkT := by
    rw [List.map_map, List.map_map]
    exact List.map_congr_left fun r _ => by simp only [Function.comp, f, tupI1_mk]
  rw [e]
end
theorem perm_ints {ys : List P} {w : Nat} (p : ys.Perm (intsP 0 w)) : ∃ o : List Nat, ys = (o.map fun (j : Nat) => P.int j) ∧ o.Perm (List.range w) := by
  have e : intsP 0 w = (List.range w).map fun (j : Nat) => P.int j := by simp [intsP]
  rw [e] at p
  let back : P → Nat := fun d => match d with
    | .int i => i.toNat
    | _ => 0
  have hb : ∀ l : List Nat, (l.map fun (j : Nat) => P.int j).map back = l := fun l => by rw [List.map_map]; simp [Function.comp_def, back]
  refine ⟨ys.map back, ?_, ?_⟩
  · rw [List.map_map]
    have : ∀ y ∈ ys, y = ((fun (j : Nat) => P.int j) ∘ back) y := fun y hy => by
      obtain ⟨j, _, e⟩ := List.mem_map.mp (p.subset hy)
      rw [← e]; simp [back]
    conv => lhs; rw [← List.map_id' ys]
    exact List.map_congr_left fun y hy => this y hy
  · have q := p.map back
    rwa [hb] at q
/-- _law_words(pen, m) -/
theorem words_ok (n : Nat) (h : Hs) (a b c m : Int) (hm1 : 1 ≤ m) (hm5 : m ≤ 5) (hn : h[n]? = some (penL a b c)) :
    ∃ (rs : List (List Int)) (w : Nat) (a' b' c' : Int), R_law_words [.ref n, .p (.int m)] h = some (.ok (.p (wordsP rs)), h.set n (penL a' b' c')) ∧ Wrds rs w := by
  have hnl : n < h.length := (List.getElem?_eq_some_iff.mp hn).1
  have hs : ∀ p : P, (h.set n p)[n]? = some p := fun p => List.getElem?_set_self hnl
  obtain ⟨r1, a1, b1, c1, d1, x0, x1⟩ := draw_ok n h a b c m (by omega) (by omega) hn
  obtain ⟨r2, a2, b2, c2, d2, y0, y1⟩ := draw_ok n (h.set n (penL a1 b1 c1)) a1 b1 c1 6 (by decide) (by decide) (hs _)
  rw [List.set_set] at d2
  let S0 : Sl := [some (.ref n), some (.p (.int m)), none, none, none, none, none, none, none, none, none, none]
  let S1 : Sl := [some (.ref n), some (.p (.int m)), some (.p (.int (1 + r1))), some (.p (.int r2)), none, none, none, none, none, none, none, none]
  have f1 : sPar 2 3 (aCons (m2 fAdd (mC (.int 1)) (mAll R_law_draw (aCons (mVar 0) (aCons (mVar 1) (aNil))))) (aCons (mAll R_law_draw (aCons (mVar 0) (aCons (mC (.int 6)) (aNil)))) (aNil))) S0 h = some (.ok .nx, S1, h.set n (penL a2 b2 c2)) :=
    par_ok (cons_ok (by rw [m2_ok c_ok (by rw [all2 (var_ok (S := S0) (i := 0) rfl) (var_ok (S := S0) (i := 1) rfl)]; exact d1)]; rfl) (cons_ok (by rw [all2 (var_ok (S := S0) (i := 0) rfl) c_ok]; exact d2) nil_ok))
  obtain ⟨rs, w, S2, a3, b3, c3, f2, W, l2, s20, s24⟩ := sort_ok (S := S1) (n := n) (m := 1 + r1) (t := r2) rfl rfl rfl rfl (by omega) (by omega) (hs (penL a2 b2 c2))
  rw [List.set_set] at f2
  obtain ⟨r0, e0⟩ : ∃ r0, rs[0]? = some r0 := ⟨_, List.getElem?_eq_getElem (by have := W.lo; omega)⟩
  have lr0 : r0.length = w := W.wd r0 (List.mem_of_getElem? e0)
  let S3 : Sl := S2.set 6 (some (.p (.int w)))
  have l3 : S3.length = 12 := by simp [S3, l2]
  have f3 : sSet 6 (mAll kLen (aCons (m2 fIdx (mVar 4) (mC (.int 0))) (aNil))) S2 (h.set n (penL a3 b3 c3)) = some (.ok .nx, S3, h.set n (penL a3 b3 c3)) :=
    set_ok (by
      have e : m2 fIdx (mVar 4) (mC (.int 0)) S2 (h.set n (penL a3 b3 c3)) = some (.ok (.p (mkT r0)), h.set n (penL a3 b3 c3)) := by
        rw [m2_ok (var_ok s24) c_ok]
        exact fIdx_lst (i := 0) (by rw [List.getElem?_map, e0]; rfl)
      rw [all1 e]
      have z : kLen [.p (mkT r0)] (h.set n (penL a3 b3 c3)) = some (.ok (.p (.int (r0.map P.int).length)), h.set n (penL a3 b3 c3)) := len_tup
      rw [z, List.length_map, lr0])
  have s3 : ∀ j, j ≠ 6 → S3[j]? = S2[j]? := fun j hj => List.getElem?_set_ne (fun z => hj z.symm)
  have s36 : S3[6]? = some (some (.p (.int w))) := List.getElem?_set_self (by omega)
  have s30 : S3[0]? = some (some (.ref n)) := (s3 0 (by decide)).trans s20
  obtain ⟨ys, a4, b4, c4, d4, _, p4⟩ := mixed_ok n (h.set n (penL a3 b3 c3)) a3 b3 c3 (intsP 0 w) (by rw [ints_len]; have := W.w1; omega) (hs _)
  rw [List.set_set] at d4
  obtain ⟨o, eo, po⟩ := perm_ints p4
  subst eo
  obtain ⟨fl, a5, b5, c5, d5, l5⟩ := flips_go n (intsP 0 w) (wipeS S3 [7]) (by show (S3.set 7 none)[0]? = _; rw [List.getElem?_set_ne (by decide)]; exact s30) w 0 (h.set n (penL a4 b4 c4)) a4 b4 c4 (by rw [ints_len]; rfl) (hs _)
  rw [List.set_set] at d5
  obtain ⟨r6, a6, b6, c6, d6, z0, z1⟩ := draw_ok n (h.set n (penL a5 b5 c5)) a5 b5 c5 16 (by decide) (by decide) (hs _)
  rw [List.set_set] at d6
  let S4 : Sl := ((S3.set 8 (some (.p (.lst (o.map fun (j : Nat) => P.int j))))).set 9 (some (.p (.lst (fl.map .int))))).set 10 (some (.p (.int r6)))
  have l4 : S4.length = 12 := by simp [S4, l3]
  have f4 : sPar3 8 9 10 (aCons (mAll R_law_mixed (aCons (mVar 0) (aCons (m1 (fun v h => kRange [v] h) (mVar 6)) (aNil)))) (aCons (mComp (iRange1 (aCons (mVar 6) (aNil))) (gN 7) (tYesM) (mAll R_law_draw (aCons (mVar 0) (aCons (mC (.int 2)) (aNil)))) [7]) (aCons (mAll R_law_draw (aCons (mVar 0) (aCons (mC (.int 16)) (aNil)))) (aNil)))) S3 (h.set n (penL a3 b3 c3)) = some (.ok .nx, S4, h.set n (penL a6 b6 c6)) := by
    refine par3_ok (cons_ok (h1 := h.set n (penL a4 b4 c4)) ?_ (cons_ok (h1 := h.set n (penL a5 b5 c5)) ?_ (cons_ok (h1 := h.set n (penL a6 b6 c6)) ?_ nil_ok)))
    · have e : m1 (fun v h => kRange [v] h) (mVar 6) S3 (h.set n (penL a3 b3 c3)) = some (.ok (.p (.lst (intsP 0 w))), h.set n (penL a3 b3 c3)) := by
        rw [m1_ok (var_ok s36)]
        have w5 := W.w1
        show (if 0 ≤ (w : Int) ∧ (w : Int) ≤ 16777216 then EV.ret (Vl.p (P.lst (intsP 0 (w : Int).toNat))) _ else none) = _
        rw [if_pos ⟨by omega, by omega⟩, Int.toNat_natCast]; rfl
      rw [all2 (var_ok s30) e]; exact d4
    · unfold mComp
      rw [rng1 (var_ok s36) (by have := W.w1; omega)]
      simp only [bnd, Itd.len, ints_len]
      rw [if_pos (by have := W.w1; omega), d5]; rfl
    · rw [all2 (var_ok s30) c_ok]; exact d6
  have s4 : ∀ j, j < 8 → S4[j]? = S3[j]? := fun j hj => by
    show ((((S3.set 8 _).set 9 _).set 10 _)[j]?) = _
    rw [List.getElem?_set_ne (by omega), List.getElem?_set_ne (by omega), List.getElem?_set_ne (by omega)]
  have s48 : S4[8]? = some (some (.p (.lst (o.map fun (j : Nat) => P.int j)))) := by
    show ((((S3.set 8 _).set 9 _).set 10 _)[8]?) = _
    rw [List.getElem?_set_ne (by decide), List.getElem?_set_ne (by decide)]; exact List.getElem?_set_self (by omega)
  have s49 : S4[9]? = some (some (.p (.lst (fl.map .int)))) := by
    show ((((S3.set 8 _).set 9 _).set 10 _)[9]?) = _
    rw [List.getElem?_set_ne (by decide)]; exact List.getElem?_set_self (by simp; omega)
  have s410 : S4[10]? = some (some (.p (.int r6))) := List.getElem?_set_self (by simp; omega)
  let ns := rs.map (newRow w o fl)
  have W2 : Wrds ns w := W.new po
  let S5 : Sl := S4.set 4 (some (.p (.lst (ns.map mkT))))
  have l5' : S5.length = 12 := by simp [S5, l4]
  have f5 : sSet 4 wNew S4 (h.set n (penL a6 b6 c6)) = some (.ok .nx, S5, h.set n (penL a6 b6 c6)) :=
    set_ok (new_ok W po l5 l4 ((s4 4 (by decide)).trans ((s3 4 (by decide)).trans s24)) ((s4 6 (by decide)).trans s36) s48 s49)
  have s54 : S5[4]? = some (some (.p (.lst (ns.map mkT)))) := List.getElem?_set_self (by omega)
  have s510 : S5[10]? = some (some (.p (.int r6))) := by show (S4.set 4 _)[10]? = _; rw [List.getElem?_set_ne (by decide)]; exact s410
  have nl := W2.lo
  have nh := W2.hi
  obtain ⟨k, hk⟩ : ∃ k : Nat, (k : Int) = r6 % (ns.length : Int) := ⟨(r6 % (ns.length : Int)).toNat, by have := Int.emod_nonneg r6 (b := (ns.length : Int)) (by omega); omega⟩
  have kl : k ≤ ns.length := by have := Int.emod_lt_of_pos r6 (b := (ns.length : Int)) (by omega); omega
  let S6 : Sl := S5.set 10 (some (.p (.int k)))
  have f6 : sSet 10 (m2 fMod (mVar 10) (mAll kLen (aCons (mVar 4) (aNil)))) S5 (h.set n (penL a6 b6 c6)) = some (.ok .nx, S6, h.set n (penL a6 b6 c6)) :=
    set_ok (by
      have e : mAll kLen (aCons (mVar 4) (aNil)) S5 (h.set n (penL a6 b6 c6)) = some (.ok (.p (.int (ns.map mkT).length)), h.set n (penL a6 b6 c6)) := by rw [all1 (var_ok s54)]; exact len_lst
      rw [List.length_map] at e
      rw [m2_ok (var_ok s510) e, hk]
      have pos : (0 : Int) < ns.length := by omega
      have lt : (ns.length : Int) < 1073741824 := by omega
      exact fMod_ok pos lt)
  have s64 : S6[4]? = some (some (.p (.lst (ns.map mkT)))) := by show (S5.set 10 _)[4]? = _; rw [List.getElem?_set_ne (by decide)]; exact s54
  have s610 : S6[10]? = some (some (.p (.int (k : Int)))) := List.getElem?_set_self (by omega)
  have f7 : sRet (mAll kTuple (aCons (m2 fAdd (mCut (mVar 4) (oSome (mVar 10)) (oNone)) (mCut (mVar 4) (oNone) (oSome (mVar 10)))) (aNil))) S6 (h.set n (penL a6 b6 c6)) = some (.ok (.rt (.p (wordsP (ns.drop k ++ ns.take k)))), S6, h.set n (penL a6 b6 c6)) := by
    refine ret_ok ?_
    have c1 : mCut (mVar 4) (oSome (mVar 10)) (oNone) S6 (h.set n (penL a6 b6 c6)) = some (.ok (.p (.lst ((ns.map mkT).drop k))), h.set n (penL a6 b6 c6)) := by
      unfold mCut
      rw [var_ok s64]
      simp only [bnd, oNone, oSome, var_ok s610, EV.ret]
      show fCut (.p (.lst (ns.map mkT))) (some (k : Int)) none _ = _
      simp only [fCut, EV.ret, cut_hi (show k ≤ (ns.map mkT).length by simpa using kl)]
    have c2 : mCut (mVar 4) (oNone) (oSome (mVar 10)) S6 (h.set n (penL a6 b6 c6)) = some (.ok (.p (.lst ((ns.map mkT).take k))), h.set n (penL a6 b6 c6)) := by
      unfold mCut
      rw [var_ok s64]
      simp only [bnd, oNone, oSome, var_ok s610, EV.ret]
      show fCut (.p (.lst (ns.map mkT))) none (some (k : Int)) _ = _
      simp only [fCut, EV.ret, cut_lo]
    have c3 : m2 fAdd (mCut (mVar 4) (oSome (mVar 10)) (oNone)) (mCut (mVar 4) (oNone) (oSome (mVar 10))) S6 (h.set n (penL a6 b6 c6)) = some (.ok (.p (.lst ((ns.drop k ++ ns.take k).map mkT))), h.set n (penL a6 b6 c6)) := by
      rw [m2_ok c1 c2]
      show (if ((ns.map mkT).drop k).length + ((ns.map mkT).take k).length ≤ 16777216 then EV.ret (Vl.p (P.lst ((ns.map mkT).drop k ++ (ns.map mkT).take k))) _ else none) = _
      rw [if_pos (by simp; omega), List.map_append, List.map_drop, List.map_take]; rfl
    rw [all1 c3]; exact tuple_lst
  refine ⟨ns.drop k ++ ns.take k, w, a6, b6, c6, ?_, W2.rot k⟩
  show fnRun 2 12 false b_law_words [.ref n, .p (.int m)] h = _
  have e : b_law_words S0 h = some (.ok (.rt (.p (wordsP (ns.drop k ++ ns.take k)))), S6, h.set n (penL a6 b6 c6)) := by
    unfold b_law_words
    exact (seq_nx f1).trans ((seq_nx f2).trans ((seq_nx f3).trans ((seq_nx f4).trans ((seq_nx f5).trans ((seq_nx f6).trans (seq_rt f7))))))
  have e2 := run_rt (np := 2) (n := 12) (args := [.ref n, .p (.int m)]) (h := h) rfl e
  rw [e2, List.take_of_length_le (l := h.set n (penL a6 b6 c6)) (by rw [List.length_set]; exact Nat.le_refl _)]
end Lw
end T45
section T46
set_option Elab.async false
set_option linter.all false
set_option maxRecDepth 100000
namespace Lw
open PySem PySem.Spec PyProof.Rows L2 EV
/-! ### texts -/
def catS (ls : List Str) : Str := ⟨((ls.map fun l => l.cps.toList).flatten).toArray⟩
theorem str_ext {a b : Str} (h : a.cps.toList = b.cps.toList) : a = b := by
  cases a; cases b; simp only [Str.mk.injEq]; exact Array.toList_inj.mp h
theorem app_list (a b : Str) : (a ++ b).cps.toList = a.cps.toList ++ b.cps.toList := by
  rw [Str.cps_append]; simp
theorem join_nil : ∀ ls : List Str, Str.join ⟨#[]⟩ ls = catS ls
  | [] => rfl
  | [x] => by
    apply str_ext
    show x.cps.toList = _
    simp [catS]
  | x :: y :: r => by
    have ih := join_nil (y :: r)
    show x ++ ⟨#[]⟩ ++ Str.join ⟨#[]⟩ (y :: r) = _
    rw [ih]
    apply str_ext
    simp [app_list, catS]
theorem strsP_map : ∀ ls : List Str, strsP (ls.map P.str) = some ls
  | [] => rfl
  | x :: r => by simp only [List.map_cons, strsP, strsP_map r]
theorem emp_eq : ("" : Str) = ⟨#[]⟩ := by rfl
theorem nl_eq : ("\n" : Str) = ⟨#[10]⟩ := by rfl
theorem fJoin_ok {ls : List Str} {h : Hs} (hz : (ls.map (·.length)).sum ≤ 16777216) : fJoin (.p (.str "")) [.p (.lst (ls.map P.str))] h = some (.ok (.p (.str (catS ls))), h) := by
  have l0 : ("" : Str).length = 0 := by rw [emp_eq]; rfl
  have e : Txt.join "" ls = catS ls := by
    show Builtin.Str.glued "" ls = _
    rw [StrLaws.glued_eq_join, emp_eq]; exact join_nil ls
  have hz2 : (ls.map (·.length)).sum + ls.length * ("" : Str).length ≤ 16777216 := by rw [l0]; omega
  simp only [fJoin, seqV, seqP, strsP_map]
  rw [if_pos hz2, e]; rfl
theorem free_app {c : Nat} : ∀ {a b x y : List Nat}, c ∉ a → c ∉ b → a ++ c :: x = b ++ c :: y → a = b ∧ x = y
  | [], [], x, y, _, _, e => ⟨rfl, by simpa using e⟩
  | [], k :: b, x, y, _, hb, e => by
    simp only [List.nil_append, List.cons_append, List.cons.injEq] at e
    exact absurd (by rw [e.1]; exact List.mem_cons_self) hb
  | k :: a, [], x, y, ha, _, e => by
    simp only [List.nil_append, List.cons_append, List.cons.injEq] at e
    exact absurd (by rw [← e.1]; exact List.mem_cons_self) ha
  | k :: a, l :: b, x, y, ha, hb, e => by
    simp only [List.cons_append, List.cons.injEq] at e
    obtain ⟨p, q⟩ := free_app (fun z => ha (List.mem_cons_of_mem _ z)) (fun z => hb (List.mem_cons_of_mem _ z)) e.2
    exact ⟨by rw [e.1, p], q⟩
theorem join_list (c : Nat) : ∀ (x y : Str) (r : List Str), (Str.join ⟨#[c]⟩ (x :: y :: r)).cps.toList = x.cps.toList ++ c :: (Str.join ⟨#[c]⟩ (y :: r)).cps.toList := fun x y r => by
  show (x ++ ⟨#[c]⟩ ++ Str.join ⟨#[c]⟩ (y :: r)).cps.toList = _
  simp [app_list]
theorem join_inj {c : Nat} : ∀ {ls ms : List Str}, ls ≠ [] → ms ≠ [] → (∀ l ∈ ls, c ∉ l.cps.toList) → (∀ l ∈ ms, c ∉ l.cps.toList) → Str.join ⟨#[c]⟩ ls = Str.join ⟨#[c]⟩ ms → ls = ms
  | [], _, h, _, _, _, _ => absurd rfl h
  | _, [], _, h, _, _, _ => absurd rfl h
  | [x], [y], _, _, _, _, e => by
    have e : x = y := e
    rw [e]
  | [x], y :: z :: r, _, _, hl, _, e => by
    have e2 : x.cps.toList = _ := congrArg (fun s : Str => s.cps.toList) (show x = Str.join ⟨#[c]⟩ (y :: z :: r) from e)
    rw [join_list] at e2
    exact absurd (by rw [e2]; simp) (hl x List.mem_cons_self)
  | x :: z :: r, [y], _, _, _, hm, e => by
    have e2 : _ = y.cps.toList := congrArg (fun s : Str => s.cps.toList) (show Str.join ⟨#[c]⟩ (x :: z :: r) = y from e)
    rw [join_list] at e2
    exact absurd (by rw [← e2]; simp) (hm y List.mem_cons_self)
  | x :: x2 :: r, y :: y2 :: s, _, _, hl, hm, e => by
    have e2 := congrArg (fun s : Str => s.cps.toList) e
    simp only [join_list] at e2
    obtain ⟨p, q⟩ := free_app (hl x List.mem_cons_self) (hm y List.mem_cons_self) e2
    have ih := join_inj (ls := x2 :: r) (ms := y2 :: s) (by simp) (by simp) (fun l h => hl l (List.mem_cons_of_mem _ h)) (fun l h => hm l (List.mem_cons_of_mem _ h)) (str_ext q)
    rw [str_ext p, ih]
theorem split_join {c : Nat} {ls : List Str} (h0 : ls ≠ []) (hl : ∀ l ∈ ls, c ∉ l.cps.toList) : Txt.split (Str.join ⟨#[c]⟩ ls) ⟨#[c]⟩ = ls := by
  have ne : Txt.split (Str.join ⟨#[c]⟩ ls) ⟨#[c]⟩ ≠ [] := fun z => by
    have := PyProof.Rows.split_pos (Str.join ⟨#[c]⟩ ls) ⟨#[c]⟩
    rw [z] at this; simp at this
  exact join_inj ne h0 (StrLaws.split_free _ c) hl (StrLaws.join_split _ _)
theorem lines_cat (c : Nat) : ∀ {ls : List Str}, ls ≠ [] → (catS (ls.map fun l => l ++ ⟨#[c]⟩)).cps.toList = (Str.join ⟨#[c]⟩ ls).cps.toList ++ [c]
  | [], h => absurd rfl h
  | [x], _ => by
    show _ = x.cps.toList ++ [c]
    simp [catS, app_list]
  | x :: y :: r, _ => by
    have ih := lines_cat c (ls := y :: r) (by simp)
    rw [join_list]
    have e : (catS ((x :: y :: r).map fun l => l ++ ⟨#[c]⟩)).cps.toList = x.cps.toList ++ c :: (catS ((y :: r).map fun l => l ++ ⟨#[c]⟩)).cps.toList := by simp [catS, app_list]
    rw [e, ih]; simp
/-! ### rows as texts -/
def bitN (x : Int) : Nat := if x = 0 then 48 else 49
def rowS (r : List Int) : Str := ⟨(r.map bitN).toArray⟩
theorem rowS_list (r : List Int) : (rowS r).cps.toList = r.map bitN := by simp [rowS]
theorem rowS_free {r : List Int} : 10 ∉ (rowS r).cps.toList := by
  rw [rowS_list]
  intro h
  obtain ⟨x, _, e⟩ := List.mem_map.mp h
  unfold bitN at e
  split at e <;> cases e
def textS (rs : List (List Int)) : Str := catS (rs.map fun r => rowS r ++ ⟨#[10]⟩)
theorem kStr_bit {x : Int} {h : Hs} (b : x = 0 ∨ x = 1) : kStr [.p (.int x)] h = some (.ok (.p (.str ⟨#[bitN x]⟩)), h) := by
  rcases b with b | b <;> subst b <;> rfl
theorem any_str {m : ME} {S : Sl} {h h' : Hs} {x : Str} (e : m S h = some (.ok (.p (.str x)), h')) : iAny m S h = some (.ok (.d (EV.signs x)), h') := by unfold iAny; rw [e]; rfl
theorem signs_row (r : List Int) : EV.signs (rowS r) = r.map fun x => P.str ⟨#[bitN x]⟩ := by
  unfold EV.signs
  rw [rowS_list, List.map_map]; rfl
theorem row_len {r : List Int} : (rowS r).length = r.length := by simp [rowS, Str.length]
theorem cat_row (r : List Int) : catS (r.map fun x => (⟨#[bitN x]⟩ : Str)) = rowS r := by
  apply str_ext
  rw [rowS_list]
  show (((r.map fun x => (⟨#[bitN x]⟩ : Str)).map fun l => l.cps.toList).flatten).toArray.toList = _
  rw [List.toList_toArray, List.map_map]
  induction r with
  | nil => rfl
  | cons x r ih => simp only [List.map_cons, List.flatten_cons, ih]; rfl
theorem sum_ones {r : List Int} (hl : r.length ≤ 1000) : ((r.map fun x => (⟨#[bitN x]⟩ : Str)).map (·.length)).sum ≤ 16777216 := by
  have e : ((r.map fun x => (⟨#[bitN x]⟩ : Str)).map (·.length)).sum = r.length := by
    clear hl
    induction r with
    | nil => rfl
    | cons x r ih => simp only [List.map_cons, List.sum_cons, ih, List.length_cons]; show 1 + r.length = _; omega
  rw [e]; omega
section
variable {S : Sl} {h : Hs} {r : List Int}
theorem mMethS_ok {f : Vl → List Vl → Hs → Rs Vl} {o : ME} {a : MA} {h1 h2 : Hs} {x : Str} {vs : List Vl} (e : o S h = some (.ok (.p (.str x)), h1)) (e2 : a S h1 = some (.ok vs, h2)) : mMethS f o a S h = f (.p (.str x)) vs h2 := by
  unfold mMethS
  rw [e]
  simp only [bnd, isStrV, if_true, e2]
/-- ''.join([str(bit) for bit in row]) -/
theorem rowjoin_ok {i j : Nat} (ij : i ≠ j) (hl : r.length ≤ 1000) (hb : ∀ x ∈ r, x = 0 ∨ x = 1) (hj : j < S.length) (hi : S[i]? = some (some (.p (mkT r)))) :
    mMethS fJoin (mC (.str "")) (aCons (mComp (iAny (mVar i)) (gN j) (tYesM) (mAll kStr (aCons (mVar j) (aNil))) [j]) (aNil)) S h = some (.ok (.p (.str (rowS r))), h) := by
  let f : P → P := fun d => match d with
    | .int x => .str ⟨#[bitN x]⟩
    | _ => .non
  have g : mComp (iAny (mVar i)) (gN j) (tYesM) (mAll kStr (aCons (mVar j) (aNil))) [j] S h = some (.ok (.p (.lst ((r.map P.int).map f))), h) := by
    refine comp_map f (any_tup (var_ok hi)) (by simp; omega) fun d hd => ⟨_, rfl, ?_⟩
    obtain ⟨x, hx, rfl⟩ := List.mem_map.mp hd
    have u : ((wipeS S [j]).set j (some (.p (.int x))))[j]? = some (some (.p (.int x))) := List.getElem?_set_self (by simp [wipeS]; exact hj)
    rw [all1 (var_ok u)]
    exact kStr_bit (hb x hx)
  refine (mMethS_ok c_ok (cons_ok g nil_ok)).trans ?_
  have e : (r.map P.int).map f = (r.map fun x => (⟨#[bitN x]⟩ : Str)).map P.str := by rw [List.map_map, List.map_map]; rfl
  rw [e, fJoin_ok (sum_ones hl)]
  rw [cat_row]
end
/-! ### [.. for .. in .. for .. in ..] over data -/
theorem comp2_go {g g1 : MG} {mi1 : MI} {te : ME} {S0 : Sl} {vs1 : List Nat} {L : List P} {h : Hs} (F : P → List P) (G : P → P → P)
    (hb : ∀ d ∈ L, ∃ S1, g d S0 = some S1 ∧ mi1 S1 h = some (.ok (.d (F d)), h) ∧ ∀ e ∈ F d, ∃ S2, g1 e (wipeS S1 vs1) = some S2 ∧ te S2 h = some (.ok (.p (G d e)), h)) :
    ∀ k i acc, k + i = L.length → (∀ j, i ≤ j → j ≤ L.length → acc.length + ((L.drop i).flatMap fun d => (F d).map (G d)).length ≤ 16777216) →
      comp2L g tYesM mi1 g1 tYesM te S0 vs1 (.d L) k i acc h = some (.ok (acc ++ (L.drop i).flatMap fun d => (F d).map (G d)), h)
  | 0, i, acc, hk, _ => by
    have e : L[i]? = none := List.getElem?_eq_none (by omega)
    have e2 : L.drop i = [] := List.drop_eq_nil_of_le (by omega)
    simp [comp2L, Itd.at, e, e2, EV.ret]
  | k + 1, i, acc, hk, hz => by
    have hi : i < L.length := by omega
    obtain ⟨D, e⟩ : ∃ D, L[i]? = some D := ⟨_, List.getElem?_eq_getElem hi⟩
    obtain ⟨S1, e1, e2, e3⟩ := hb D (List.mem_of_getElem? e)
    have ed : L.drop i = D :: L.drop (i + 1) := by
      rw [List.drop_eq_getElem_cons hi, (List.getElem?_eq_some_iff.mp e).2]
    have hz0 := hz i (Nat.le_refl _) (by omega)
    rw [ed, List.flatMap_cons, List.length_append, List.length_map] at hz0
    have e4 := compL_fm (fun e => some (G D e)) (tt := tYesM) (fun e he => by
      obtain ⟨S2, q1, q2⟩ := e3 e he
      exact ⟨S2, q1, .inl ⟨_, rfl, rfl, q2⟩⟩) (F D).length 0 (by omega)
    rw [List.drop_zero, show (List.filterMap (fun e => some (G D e)) (F D)) = (F D).map (G D) by simp] at e4
    have ih := comp2_go F G hb k (i + 1) (acc ++ (F D).map (G D)) (by omega) (fun j _ _ => by rw [List.length_append, List.length_map]; omega)
    rw [ed, List.flatMap_cons, ← List.append_assoc, ← ih]
    have cc : acc.length + (F D).length ≤ 16777216 := by omega
    have e5 : comp2L g tYesM mi1 g1 tYesM te S0 vs1 (.d L) (k + 1) i acc h = bnd (compL g1 tYesM te (wipeS S1 vs1) (.d (F D)) (F D).length 0 h) fun ys h3 => comp2L g tYesM mi1 g1 tYesM te S0 vs1 (.d L) k (i + 1) (acc ++ ys) h3 := by
      rw [comp2L]
      simp only [Itd.at, e, e1, tYesM, EV.ret, noErr, bnd, if_true, e2, Itd.len]
      exact if_pos cc
    rw [e5, e4]; rfl
theorem comp2_map {mi mi1 : MI} {g g1 : MG} {te : ME} {vs vs1 : List Nat} {S : Sl} {L : List P} {h h' : Hs} (F : P → List P) (G : P → P → P) (hi : mi S h = some (.ok (.d L), h')) (hz : (L.flatMap fun d => (F d).map (G d)).length ≤ 16777216)
    (hb : ∀ d ∈ L, ∃ S1, g d (wipeS S vs) = some S1 ∧ mi1 S1 h' = some (.ok (.d (F d)), h') ∧ ∀ e ∈ F d, ∃ S2, g1 e (wipeS S1 vs1) = some S2 ∧ te S2 h' = some (.ok (.p (G d e)), h')) :
    mComp2 mi g tYesM mi1 g1 tYesM te vs vs1 S h = some (.ok (.p (.lst (L.flatMap fun d => (F d).map (G d)))), h') := by
  have e := comp2_go F G hb L.length 0 [] (by omega) (fun _ _ _ => by simpa using hz)
  unfold mComp2
  rw [hi]
  simp only [bnd, Itd.len, e, EV.ret, List.drop_zero, List.nil_append]
/-! ### the text of a code, read -/
theorem seqV_str {x : Str} {h : Hs} : fEndsW (.p (.str x)) [.p (.str "\n")] h = some (.ok (.p (.bl (Txt.endswith x "\n"))), h) := rfl
theorem ends_nl {x : Str} {l : List Nat} (e : x.cps.toList = l ++ [10]) : Txt.endswith x "\n" = true := by
  have hl : x.length = l.length + 1 := by
    show x.cps.size = _
    rw [← Array.length_toList, e]; simp
  have nl : ("\n" : Str).length = 1 := by rw [nl_eq]; rfl
  show (decide (0 + ("\n" : Str).length ≤ x.length) && Builtin.Str.subAt x "\n" (x.length - ("\n" : Str).length)) = true
  rw [StrLaws.subAt_eq, nl, hl, e, Bool.and_eq_true, decide_eq_true_eq]
  refine ⟨by omega, ?_⟩
  rw [nl_eq, show l.length + 1 - 1 = l.length by omega, List.drop_left]
  rfl
theorem cut_nl {x : Str} {y : Str} (e : x.cps.toList = y.cps.toList ++ [10]) : L2.cutS x none (some (-1)) = y := by
  apply str_ext
  have hl : x.length = y.length + 1 := by
    show x.cps.size = y.cps.size + 1
    rw [← Array.length_toList, e]; simp
  show ((x.cps.toList.drop 0).take ((if (-1 : Int) < 0 then ((-1 : Int) + (x.length : Int)).toNat else min (-1 : Int).toNat x.length) - 0)).toArray.toList = _
  rw [if_pos (by decide), hl, e, List.drop_zero, List.toList_toArray]
  have e2 : ((-1 : Int) + ((y.length + 1 : Nat) : Int)).toNat - 0 = y.cps.toList.length := by
    show ((-1 : Int) + ((y.length + 1 : Nat) : Int)).toNat - 0 = y.cps.toList.length
    rw [Array.length_toList]; show _ = y.length; omega
  rw [e2, List.take_left]
theorem text_list {rs : List (List Int)} (h : rs ≠ []) : (textS rs).cps.toList = (Str.join ⟨#[10]⟩ (rs.map rowS)).cps.toList ++ [10] := by
  have e := lines_cat 10 (ls := rs.map rowS) (by simpa using h)
  rw [List.map_map] at e
  exact e
theorem text_len {rs : List (List Int)} {w : Nat} (W : Wrds rs w) : (textS rs).length ≤ 96 := by
  have e : ∀ l : List (List Int), (∀ r ∈ l, r.length = w) → (catS (l.map fun r => rowS r ++ ⟨#[10]⟩)).cps.toList.length = l.length * (w + 1) := by
    intro l hl
    induction l with
    | nil => simp [catS]
    | cons r l ih =>
      have ih := ih fun s hs => hl s (List.mem_cons_of_mem _ hs)
      have hr := hl r List.mem_cons_self
      simp only [catS, List.map_cons, List.flatten_cons, List.length_append] at ih ⊢
      rw [ih, app_list, rowS_list]
      simp [hr, Nat.succ_mul]; omega
  show (catS (rs.map fun r => rowS r ++ ⟨#[10]⟩)).cps.size ≤ 96
  rw [← Array.length_toList, e rs W.wd]
  have a := W.hi
  have b := W.w1
  calc rs.length * (w + 1) ≤ 16 * (w + 1) := Nat.mul_le_mul_right _ a
    _ ≤ 96 := by omega
theorem inB {x : Int} {h : Hs} : fIn false (.p (.str ⟨#[bitN x]⟩)) (.p (.tup [.str "0", .str "1"])) h = some (.ok (.p (.bl true)), h) := by
  have e1 : pyV (.p (.tup [.str "0", .str "1"])) h = some (.tuple [.str "0", .str "1"]) := rfl
  have e2 : ∀ y : Str, pyV (.p (.str y)) h = some (.str y) := fun _ => rfl
  have k : ∀ c : Nat, c = 48 ∨ c = 49 → (SeqAt.shaped (.str ⟨#[c]⟩) = true ∧ SeqAt.shaped (.tuple [.str "0", .str "1"]) = true) ∧ ([PyData.str "0", .str "1"].any fun z => PyData.eqv z (.str ⟨#[c]⟩)) = true := fun c hc => by
    rcases hc with hc | hc <;> subst hc <;> exact ⟨⟨by decide +kernel, by decide +kernel⟩, by decide +kernel⟩
  have kk := k (bitN x) (by unfold bitN; split <;> simp)
  simp only [fIn, e1, e2]
  rw [if_pos kk.1, kk.2]
  rfl
theorem intB {x : Int} {h : Hs} (b : x = 0 ∨ x = 1) : kInt2 [.p (.str ⟨#[bitN x]⟩)] h = some (.ok (.p (.int x)), h) := by
  have e0 : PySem.intText? ⟨#[48]⟩ = some 0 := by decide +kernel
  have e1 : PySem.intText? ⟨#[49]⟩ = some 1 := by decide +kernel
  rcases b with b | b <;> subst b
  · show (match PySem.intText? ⟨#[48]⟩ with
      | some n => if (⟨#[48]⟩ : Str).length ≤ 640 then EV.ret (Vl.p (P.int n)) h else none
      | none => none) = _
    rw [e0]; rfl
  · show (match PySem.intText? ⟨#[49]⟩ with
      | some n => if (⟨#[49]⟩ : Str).length ≤ 640 then EV.ret (Vl.p (P.int n)) h else none
      | none => none) = _
    rw [e1]; rfl
theorem all_true {n : Nat} {ds : List P} {h : Hs} (e : ds = List.replicate n (P.bl true)) : kAll [.p (.lst ds)] h = some (.ok (.p (.bl true)), h) := by
  subst e
  have q : ∀ n, bls (List.replicate n (P.bl true)) = some (List.replicate n true) := fun n => by
    induction n with
    | zero => rfl
    | succ n ih => simp only [List.replicate_succ, bls, ih]
  simp only [kAll, lstV, q, pB, EV.ret]
  simp
end Lw
end T46
section T47
set_option Elab.async false
set_option linter.all false
set_option maxRecDepth 100000
namespace Lw
open PySem PySem.Spec PyProof.Rows L2 EV
theorem isiT {u : String} {v : Vl} {h : Hs} {t : String} {b : Bool} (e : tyV' v h = some t) (e2 : kitB t u = some b) : fIsi u v h = some (.ok (.p (.bl b)), h) := by
  unfold fIsi
  rw [e]; simp only [e2]; rfl
theorem orT_ff {a b : MT} {S : Sl} {h h1 h2 : Hs} {q : Bool} (e : a S h = some (.ok false, h1)) (e2 : b S h1 = some (.ok q, h2)) : mOrT a b S h = some (.ok q, h2) := by
  unfold mOrT; rw [e]; simp only [bnd, Bool.false_eq_true, if_false]; exact e2
theorem andT_tt {a b : MT} {S : Sl} {h h1 h2 : Hs} {q : Bool} (e : a S h = some (.ok true, h1)) (e2 : b S h1 = some (.ok q, h2)) : mAndT a b S h = some (.ok q, h2) := by
  unfold mAndT; rw [e]; simp only [bnd, if_true]; exact e2
theorem and_tt {a b : ME} {S : Sl} {h h1 : Hs} (e : a S h = some (.ok (.p (.bl true)), h1)) : mAnd a b S h = b S h1 := by
  unfold mAnd; rw [e]; simp only [bnd, if_true]
/-! ### read_words of a code's text -/
theorem lines_ok {rs : List (List Int)} {w : Nat} (W : Wrds rs w) : Txt.split (L2.cutS (textS rs) none (some (-1))) "\n" = rs.map rowS := by
  have ne : rs ≠ [] := fun z => by have := W.lo; rw [z] at this; simp at this
  rw [cut_nl (text_list ne), nl_eq]
  exact split_join (by simpa using ne) fun l hl => by
    obtain ⟨r, _, e⟩ := List.mem_map.mp hl
    rw [← e]; exact rowS_free
theorem read_ok {rs : List (List Int)} {w : Nat} (W : Wrds rs w) (h : Hs) : R_read_words [.p (.str (textS rs))] h = some (.ok (.p (wordsP rs)), h) := by
  have ne : rs ≠ [] := fun z => by have := W.lo; rw [z] at this; simp at this
  have tl := text_len W
  let S0 : Sl := [some (.p (.str (textS rs))), none, none, none]
  let S1 : Sl := [some (.p (.str (textS rs))), some (.p (.lst ((rs.map rowS).map P.str))), none, none]
  have t1 : mNotT (mT (m1 (fIsi "str") (mVar 0))) S0 [] = some (.ok false, []) := by
    rw [notT_ok (mT_ok (q := true) (by rw [m1_ok (var_ok (S := S0) (i := 0) rfl)]; exact isiT (t := "str") rfl rfl))]; rfl
  have t2 : mNotT (mT (mMethS fEndsW (mVar 0) (aCons (mC (.str "\n")) (aNil)))) S0 [] = some (.ok false, []) := by
    rw [notT_ok (mT_ok (q := true) (by rw [mMethS_ok (var_ok (S := S0) (i := 0) rfl) (cons_ok c_ok nil_ok), seqV_str, ends_nl (text_list ne)]))]; rfl
  have f1 : sIf (mOrT (mNotT (mT (m1 (fIsi "str") (mVar 0)))) (mNotT (mT (mMethS fEndsW (mVar 0) (aCons (mC (.str "\n")) (aNil)))))) (sSeq (sRet (mAll kTupD (aNil))) (sNil)) (sNil) S0 [] = some (.ok .nx, S0, []) :=
    (if_ff (orT_ff t1 t2)).trans rfl
  have g1 : mCut (mVar 0) (oNone) (oSome (m1 fUSub (mC (.int 1)))) S0 [] = some (.ok (.p (.str (L2.cutS (textS rs) none (some (-1))))), []) := by
    unfold mCut
    rw [var_ok (S := S0) (i := 0) rfl]
    have : oSome (m1 fUSub (mC (.int 1))) S0 [] = some (.ok (some (-1)), []) := by rfl
    simp only [bnd, oNone, this, EV.ret]
    have c : (textS rs).length ≤ 16777216 := by omega
    exact if_pos c
  have f2 : sSet 1 (mMethS fSplit (mCut (mVar 0) (oNone) (oSome (m1 fUSub (mC (.int 1))))) (aCons (mC (.str "\n")) (aNil))) S0 [] = some (.ok .nx, S1, []) :=
    set_ok (by
      rw [mMethS_ok g1 (cons_ok c_ok nil_ok)]
      have c : (("\n" : Str).length == 0) = false ∧ (L2.cutS (textS rs) none (some (-1))).length + 2 ≤ 16777216 := by
        refine ⟨by rw [nl_eq]; rfl, ?_⟩
        rw [cut_nl (text_list ne)]
        have z := congrArg List.length (text_list ne)
        rw [List.length_append, Array.length_toList, Array.length_toList] at z
        have z2 : (textS rs).length = (Str.join ⟨#[10]⟩ (rs.map rowS)).length + 1 := z
        omega
      show (if _ then _ else _) = _
      rw [if_pos c, lines_ok W]; rfl)
  have bits : ∀ r ∈ rs, ∀ x ∈ r, x = 0 ∨ x = 1 := W.bt
  have len : ((rs.map rowS).map P.str).length ≤ 16 := by simpa using W.hi
  have strow : ∀ d ∈ (rs.map rowS).map P.str, ∃ r ∈ rs, d = .str (rowS r) := fun d hd => by
    obtain ⟨s, hs, rfl⟩ := List.mem_map.mp hd
    obtain ⟨r, hr, rfl⟩ := List.mem_map.mp hs
    exact ⟨r, hr, rfl⟩
  have g2 : mComp2 (iAny (mVar 1)) (gN 2) (tYesM) (iAny (mVar 2)) (gN 3) (tYesM) (m2 (fIn false) (mVar 3) (mAll kTupD (aCons (mC (.str "0")) (aCons (mC (.str "1")) (aNil))))) [2, 3] [3] S1 [] = some (.ok (.p (.lst (((rs.map rowS).map P.str).flatMap fun d => ((match d with | .str x => EV.signs x | _ => []) : List P).map fun _ => P.bl true))), []) := by
    refine comp2_map (fun d => match d with | .str x => EV.signs x | _ => []) (fun _ _ => P.bl true) (any_lst (var_ok (S := S1) (i := 1) rfl)) ?_ fun d hd => ?_
    · have : ∀ l : List (List Int), (∀ r ∈ l, r.length = w) → (((l.map rowS).map P.str).flatMap fun d => ((match d with | .str x => EV.signs x | _ => []) : List P).map fun _ => P.bl true).length = l.length * w := fun l hl => by
        induction l with
        | nil => simp
        | cons r l ih =>
          have ih := ih fun s hs => hl s (List.mem_cons_of_mem _ hs)
          simp only [List.map_cons, List.flatMap_cons, List.length_append, ih, List.length_map, signs_row, hl r List.mem_cons_self, List.length_cons, Nat.succ_mul]
          omega
      rw [this rs W.wd]
      have a := W.hi
      have b := W.w1
      calc rs.length * w ≤ 16 * w := Nat.mul_le_mul_right _ a
        _ ≤ 16777216 := by omega
    · obtain ⟨r, hr, rfl⟩ := strow d hd
      refine ⟨_, rfl, any_str (var_ok (by rfl)), fun e he => ⟨_, rfl, ?_⟩⟩
      have he : e ∈ EV.signs (rowS r) := he
      rw [signs_row] at he
      obtain ⟨x, hx, rfl⟩ := List.mem_map.mp he
      rw [m2_ok (var_ok (by rfl)) (show mAll kTupD (aCons (mC (.str "0")) (aCons (mC (.str "1")) (aNil))) _ [] = some (.ok (.p (.tup [.str "0", .str "1"])), []) from rfl)]
      exact inB
  have rep : ∀ (l : List P) (F : P → List P), ∃ n, (l.flatMap fun d => (F d).map fun _ => P.bl true) = List.replicate n (P.bl true) := fun l F => by
    induction l with
    | nil => exact ⟨0, rfl⟩
    | cons d l ih =>
      obtain ⟨n, e⟩ := ih
      refine ⟨(F d).length + n, ?_⟩
      rw [List.flatMap_cons, e, List.map_const', List.replicate_append_replicate]
  obtain ⟨n, en⟩ := rep ((rs.map rowS).map P.str) (fun d => match d with | .str x => EV.signs x | _ => [])
  have f3 : sIf (mNotT (mT (mAll kAll (aCons (mComp2 (iAny (mVar 1)) (gN 2) (tYesM) (iAny (mVar 2)) (gN 3) (tYesM) (m2 (fIn false) (mVar 3) (mAll kTupD (aCons (mC (.str "0")) (aCons (mC (.str "1")) (aNil))))) [2, 3] [3]) (aNil))))) (sSeq (sRet (mAll kTupD (aNil))) (sNil)) (sNil) S1 [] = some (.ok .nx, S1, []) :=
    (if_ff (notT_ok (q := true) (mT_ok (by rw [all1 g2]; exact all_true en)))).trans rfl
  let f : P → P := fun d => match d with
    | .str x => .tup ((EV.signs x).map fun e => match e with | .str y => .int (if y = ⟨#[48]⟩ then 0 else 1) | _ => .non)
    | _ => .non
  have g3 : mComp (iAny (mVar 1)) (gN 2) (tYesM) (mAll kTuple (aCons (mComp (iAny (mVar 2)) (gN 3) (tYesM) (mAll kInt2 (aCons (mVar 3) (aNil))) [3]) (aNil))) [2] S1 [] = some (.ok (.p (.lst (((rs.map rowS).map P.str).map f))), []) := by
    refine comp_map f (any_lst (var_ok (S := S1) (i := 1) rfl)) (by omega) fun d hd => ?_
    obtain ⟨r, hr, rfl⟩ := strow d hd
    refine ⟨_, rfl, ?_⟩
    refine (all1 (comp_map (fun e => match e with | .str y => .int (if y = ⟨#[48]⟩ then 0 else 1) | _ => .non) (any_str (x := rowS r) (var_ok (by rfl))) (by rw [signs_row, List.length_map, W.wd r hr]; have := W.w1; omega) fun e he => ?_)).trans tuple_lst
    rw [signs_row] at he
    obtain ⟨x, hx, rfl⟩ := List.mem_map.mp he
    refine ⟨_, rfl, ?_⟩
    rw [all1 (var_ok (by rfl)), intB (bits r hr x hx)]
    rcases bits r hr x hx with b | b <;> subst b <;> rfl
  have ef : ((rs.map rowS).map P.str).map f = rs.map mkT := by
    rw [List.map_map, List.map_map]
    refine List.map_congr_left fun r hr => ?_
    show P.tup ((EV.signs (rowS r)).map _) = mkT r
    rw [signs_row, List.map_map]
    unfold mkT
    refine congrArg P.tup (List.map_congr_left fun x hx => ?_)
    rcases bits r hr x hx with b | b <;> subst b <;> rfl
  have f4 : sRet (mAll kTuple (aCons (mComp (iAny (mVar 1)) (gN 2) (tYesM) (mAll kTuple (aCons (mComp (iAny (mVar 2)) (gN 3) (tYesM) (mAll kInt2 (aCons (mVar 3) (aNil))) [3]) (aNil))) [2]) (aNil))) S1 [] = some (.ok (.rt (.p (wordsP rs))), S1, []) :=
    ret_ok (by rw [all1 g3, tuple_lst, ef])
  have e : b_read_words S0 [] = some (.ok (.rt (.p (wordsP rs))), S1, []) := by
    unfold b_read_words
    exact (seq_nx f1).trans ((seq_nx f2).trans ((seq_nx f3).trans (seq_rt f4)))
  exact frame_rt (np := 1) (n := 4) (ds := [.str (textS rs)]) (args := [.p (.str (textS rs))]) rfl rfl e h
/-! ### are_words, Code(..) -/
theorem le3 {a b c : ME} {S : Sl} {h : Hs} {i j k : Int} (ea : a S h = some (.ok (.p (.int i)), h)) (eb : b S h = some (.ok (.p (.int j)), h)) (ec : c S h = some (.ok (.p (.int k)), h)) (h1 : i ≤ j) (h2 : j ≤ k) : m3 fLe fLe a b c S h = some (.ok (.p (.bl true)), h) := by
  unfold m3
  rw [ea]
  simp only [bnd]
  rw [eb]
  simp only [fLe, fI2, decide_eq_true h1, EV.ret, if_true]
  rw [ec]
  simp only [decide_eq_true h2]
def allRows : Nat → List (List Int)
  | 0 => [[]]
  | n + 1 => (allRows n).flatMap fun r => [0 :: r, 1 :: r]
theorem mem_allRows : ∀ {n : Nat} {r : List Int}, r.length = n → (∀ x ∈ r, x = 0 ∨ x = 1) → r ∈ allRows n
  | 0, r, hl, _ => by
    have : r = [] := List.length_eq_zero_iff.mp hl
    rw [this]; exact List.mem_cons_self
  | n + 1, [], hl, _ => by simp at hl
  | n + 1, x :: r, hl, hb => by
    have ih := mem_allRows (n := n) (r := r) (by simpa using hl) (fun y hy => hb y (List.mem_cons_of_mem _ hy))
    refine List.mem_flatMap.mpr ⟨r, ih, ?_⟩
    rcases hb x List.mem_cons_self with b | b <;> subst b <;> simp
def isWB (w : Nat) : Bool := (allRows w).all fun r => isT (R_is_word [.p (mkT r), .p (.int w)] [])
theorem isWB_all : ∀ w : Nat, 1 ≤ w → w ≤ 5 → isWB w = true := fun w h1 h2 => by
  have c : w = 1 ∨ w = 2 ∨ w = 3 ∨ w = 4 ∨ w = 5 := by omega
  rcases c with c | c | c | c | c <;> subst c <;> decide +kernel
theorem isWord_ok {w : Nat} {r : List Int} (h1 : 1 ≤ w) (h2 : w ≤ 5) (hl : r.length = w) (hb : ∀ x ∈ r, x = 0 ∨ x = 1) (h : Hs) : R_is_word [.p (mkT r), .p (.int w)] h = some (.ok (.p (.bl true)), h) :=
  frame_at (ds := [mkT r, .int w]) rfl (isT_eq (List.all_eq_true.mp (isWB_all w h1 h2) r (mem_allRows hl hb))) h
theorem dist_nd : ∀ {l : List (List Int)}, l.Nodup → dist l = l
  | [], _ => rfl
  | x :: l, nd => by
    have nd := List.nodup_cons.mp nd
    show (if x ∈ l then dist l else x :: dist l) = x :: l
    rw [if_neg nd.1, dist_nd nd.2]
theorem areWords_ok {rs : List (List Int)} {w : Nat} (W : Wrds rs w) (h : Hs) : R_are_words [.p (wordsP rs)] h = some (.ok (.p (.bl true)), h) := by
  obtain ⟨r0, e0⟩ : ∃ r0, rs[0]? = some r0 := ⟨_, List.getElem?_eq_getElem (by have := W.lo; omega)⟩
  have l0 := W.wd r0 (List.mem_of_getElem? e0)
  let S0 : Sl := [some (.p (wordsP rs)), none, none]
  let S1 : Sl := [some (.p (wordsP rs)), some (.p (mkT r0)), none]
  have lenW : ∀ T : Sl, T[0]? = some (some (.p (wordsP rs))) → mAll kLen (aCons (mVar 0) (aNil)) T [] = some (.ok (.p (.int rs.length)), []) := fun T hT => by
    rw [all1 (var_ok hT), len_tup, List.length_map]
  have lenR : ∀ T : Sl, T[1]? = some (some (.p (mkT r0))) → mAll kLen (aCons (mVar 1) (aNil)) T [] = some (.ok (.p (.int w)), []) := fun T hT => by
    rw [all1 (var_ok hT)]
    have z : kLen [.p (mkT r0)] [] = some (.ok (.p (.int (r0.map P.int).length)), []) := len_tup
    rw [z, List.length_map, l0]
  have f1 : sIf (mNotT (mT (m3 fLe fLe (mC (.int 2)) (mAll kLen (aCons (mVar 0) (aNil))) (mC (.int 16))))) (sSeq (sRet (mC (.bl false))) (sNil)) (sNil) S0 [] = some (.ok .nx, S0, []) :=
    (if_ff (notT_ok (q := true) (mT_ok (le3 c_ok (lenW S0 rfl) c_ok (by have := W.lo; omega) (by have := W.hi; omega))))).trans rfl
  have f2 : sSet 1 (m2 fIdx (mVar 0) (mC (.int 0))) S0 [] = some (.ok .nx, S1, []) :=
    set_ok (by rw [m2_ok (var_ok (S := S0) (i := 0) rfl) c_ok]; exact fIdx_tup (i := 0) (by rw [List.getElem?_map, e0]; rfl))
  have f3 : sIf (mOrT (mNotT (mT (m1 (fIsi "tuple") (mVar 1)))) (mNotT (mT (m3 fLe fLe (mC (.int 1)) (mAll kLen (aCons (mVar 1) (aNil))) (mC (.int 5)))))) (sSeq (sRet (mC (.bl false))) (sNil)) (sNil) S1 [] = some (.ok .nx, S1, []) :=
    (if_ff (orT_ff (notT_ok (q := true) (mT_ok (by rw [m1_ok (var_ok (S := S1) (i := 1) rfl)]; exact isiT (t := "tuple") rfl rfl)))
      (notT_ok (q := true) (mT_ok (le3 c_ok (lenR S1 rfl) c_ok (by have := W.w0; omega) (by have := W.w1; omega)))))).trans rfl
  have g1 : mComp (iAny (mVar 0)) (gN 2) (tYesM) (mAll R_is_word (aCons (mVar 2) (aCons (mAll kLen (aCons (mVar 1) (aNil))) (aNil)))) [2] S1 [] = some (.ok (.p (.lst ((rs.map mkT).map fun _ => P.bl true))), []) := by
    refine comp_map (fun _ => P.bl true) (any_tup (var_ok (S := S1) (i := 0) rfl)) (by have := W.hi; simp; omega) fun d hd => ?_
    obtain ⟨r, hr, rfl⟩ := List.mem_map.mp hd
    refine ⟨_, rfl, ?_⟩
    rw [all2 (var_ok (by rfl)) (lenR _ rfl)]
    exact isWord_ok W.w0 W.w1 (W.wd r hr) (W.bt r hr) []
  have f4 : sRet (mAnd (mAll kAll (aCons (mComp (iAny (mVar 0)) (gN 2) (tYesM) (mAll R_is_word (aCons (mVar 2) (aCons (mAll kLen (aCons (mVar 1) (aNil))) (aNil)))) [2]) (aNil))) (m2 (fEqD false) (m1 kLenSetT (mVar 0)) (mAll kLen (aCons (mVar 0) (aNil))))) S1 [] = some (.ok (.rt (.p (.bl true))), S1, []) := by
    refine ret_ok ?_
    rw [and_tt (by rw [all1 g1]; exact all_true (List.map_const' ..))]
    have e1 : m1 kLenSetT (mVar 0) S1 [] = some (.ok (.p (.int rs.length)), []) := by
      rw [m1_ok (var_ok (S := S1) (i := 0) rfl)]
      simp only [kLenSetT, tupsI_map, dist_nd W.nd, pI, EV.ret]
      exact if_pos (by have := W.hi; simp; omega)
    rw [m2_ok e1 (lenW S1 rfl), eqI, decide_eq_true rfl]
  have e : b_are_words S0 [] = some (.ok (.rt (.p (.bl true))), S1, []) := by
    unfold b_are_words
    exact (seq_nx f1).trans ((seq_nx f2).trans ((seq_nx f3).trans (seq_rt f4)))
  exact frame_rt (np := 1) (n := 3) (ds := [wordsP rs]) (args := [.p (wordsP rs)]) rfl rfl e h
theorem run_nx {np n : Nat} {fr : Bool} {args : List Vl} {b : MS} {S' : Sl} {h h' : Hs} (hl : args.length = np) (e : b (args.map some ++ List.replicate (n - np) none) h = some (.ok .nx, S', h')) : fnRun np n fr b args h = some (.ok (.p .non), h'.take h.length) := by
  unfold fnRun; rw [if_pos hl, e]
/-! the dict of a code -/
theorem putP_new {acc : AL} {k : List Int} {d : P} (h : k ∉ acc.map (·.1)) : putP acc k d = acc ++ [(k, d)] := by
  unfold putP
  rw [if_neg]
  intro z
  obtain ⟨kv, hm, e⟩ := List.any_eq_true.mp z
  exact h (by rw [← of_decide_eq_true e]; exact List.mem_map.mpr ⟨kv, hm, rfl⟩)
theorem dct_go {S0 : Sl} {rs : List (List Int)} {h : Hs} (nd : rs.Nodup) (hS : 4 ≤ S0.length) : ∀ k i, k + i = rs.length →
    dctL (gU 2 (gsCons (gN 2) (gsCons (gN 3) (gsNil)))) (tYesM) (mVar 3) (mVar 2) S0 (.d (enumP (rs.map mkT))) k i ((rs.take i).zip (intsP 0 i)) h = some (.ok (rs.zip (intsP 0 rs.length)), h)
  | 0, i, hk => by
    have e : (enumP (rs.map mkT))[i]? = none := List.getElem?_eq_none (by simp [enumP]; omega)
    have : i = rs.length := by omega
    subst this
    simp only [dctL, Itd.at, e, EV.ret, List.take_length]
  | k + 1, i, hk => by
    have hi : i < rs.length := by omega
    obtain ⟨r, er⟩ : ∃ r, rs[i]? = some r := ⟨_, List.getElem?_eq_getElem hi⟩
    have e : (enumP (rs.map mkT))[i]? = some (.tup [.int i, mkT r]) := by
      unfold enumP
      rw [List.getElem?_mapIdx, List.getElem?_map, er]; rfl
    have ih := dct_go nd hS (h := h) k (i + 1) (by omega)
    have ex : rs.take (i + 1) = rs.take i ++ [r] := by rw [List.take_add_one, er]; rfl
    have ez : (rs.take (i + 1)).zip (intsP 0 (i + 1)) = (rs.take i).zip (intsP 0 i) ++ [(r, .int i)] := by
      have e2 : intsP 0 (i + 1) = intsP 0 i ++ [.int i] := by simp [intsP, List.range_succ]
      rw [ex, e2, List.zip_append (by simp [ints_len]; omega)]; rfl
    have fresh : r ∉ ((rs.take i).zip (intsP 0 i)).map (·.1) := fun z => by
      have z2 : r ∈ rs.take i := by
        obtain ⟨p, hp, e⟩ := List.mem_map.mp z
        rw [← e]; exact (List.of_mem_zip hp).1
      obtain ⟨j, hj⟩ := List.getElem?_of_mem z2
      have hj2 : j < i := by
        have := (List.getElem?_eq_some_iff.mp hj).1
        simp at this; omega
      rw [List.getElem?_take_of_lt hj2] at hj
      have := (List.getElem?_inj (by omega) nd).mp (hj.trans er.symm)
      omega
    have g : gU 2 (gsCons (gN 2) (gsCons (gN 3) (gsNil))) (.tup [.int i, mkT r]) S0 = some ((S0.set 2 (some (.p (.int i)))).set 3 (some (.p (mkT r)))) := rfl
    have v3 : ((S0.set 2 (some (.p (.int i)))).set 3 (some (.p (mkT r))))[3]? = some (some (.p (mkT r))) := List.getElem?_set_self (by simp; omega)
    have v2 : ((S0.set 2 (some (.p (.int i)))).set 3 (some (.p (mkT r))))[2]? = some (some (.p (.int i))) := by
      rw [List.getElem?_set_ne (by decide)]; exact List.getElem?_set_self (by omega)
    rw [ez] at ih
    simp only [dctL, Itd.at, e, g, tYesM, EV.ret, noErr, bnd, if_true, var_ok v3, var_ok v2, tupI1_mk, putP_new fresh]
    exact ih
theorem back_ref {n L : Nat} {h' : Hs} {c : Nat} {fs : List P} (hn : ¬ n < L) (e : h'[n]? = some (.ins c fs)) : EV.backV false L (.ref n) h' = some (.ok (.p (.ins c fs)), h'.take L) := by
  simp only [EV.backV, if_neg hn, e, Bool.false_eq_true, if_false]
/-- the code of such words -/
def codeP (rs : List (List Int)) : P := .ins 0 [wordsP rs, .dct rs (intsP 0 rs.length), .mem 0 [wordsP rs, .dct rs (intsP 0 rs.length)]]
theorem init_ok {rs : List (List Int)} {w : Nat} (W : Wrds rs w) (h : Hs) : kMake 0 false R_Code_init ((rs.map mkT).map Vl.p) h = some (.ok (.p (codeP rs)), h) := by
  let n := h.length
  let h0 : Hs := h ++ [.ins 0 []]
  have hn : n < h0.length := by simp [h0, n]
  let S0 : Sl := [some (.ref n), some (.p (wordsP rs)), none, none]
  let D : P := .dct rs (intsP 0 rs.length)
  have at0 : h0[n]? = some (.ins 0 []) := by simp [h0, n]
  have f1 : sIf (mNotT (mT (mAll R_are_words (aCons (mVar 1) (aNil))))) (sSeq (sRaiseA 1 (aCons (mC (.str "2 to 16 different words of the same length are required")) (aNil))) (sNil)) (sNil) S0 h0 = some (.ok .nx, S0, h0) :=
    (if_ff (notT_ok (q := true) (mT_ok (by rw [all1 (var_ok (S := S0) (i := 1) rfl)]; exact areWords_ok W h0)))).trans rfl
  have f2 : sFldS 0 0 (mVar 0) (mVar 1) S0 h0 = some (.ok .nx, S0, h0.set n (.ins 0 [wordsP rs])) := by
    unfold sFldS
    rw [var_ok (S := S0) (i := 1) rfl]
    simp only [bndS, var_ok (S := S0) (i := 0) rfl, wFld, at0]
    rfl
  have at1 : (h0.set n (.ins 0 [wordsP rs]))[n]? = some (.ins 0 [wordsP rs]) := List.getElem?_set_self hn
  have g3 : mDctT (iEnumA (aCons (mVar 1) (aNil))) (gU 2 (gsCons (gN 2) (gsCons (gN 3) (gsNil)))) (tYesM) (mVar 3) (mVar 2) [2, 3] S0 (h0.set n (.ins 0 [wordsP rs])) = some (.ok (.p D), h0.set n (.ins 0 [wordsP rs])) := by
    unfold mDctT iEnumA
    rw [cons_ok (var_ok (S := S0) (i := 1) rfl) nil_ok]
    have hz : (enumP (rs.map mkT)).length ≤ 16777215 := by have := W.hi; simp [enumP]; omega
    have e := dct_go (S0 := wipeS S0 [2, 3]) (h := h0.set n (.ins 0 [wordsP rs])) W.nd (by simp [wipeS, S0]) rs.length 0 (by omega)
    have el : (enumP (rs.map mkT)).length = rs.length := by simp [enumP]
    simp only [List.take_zero, List.zip_nil_left] at e
    simp only [bnd, EV.ret, Itd.len]
    refine (if_pos hz).trans ?_
    rw [el, e]
    show some (Except.ok (Vl.p (P.dct ((rs.zip (intsP 0 rs.length)).map (·.1)) ((rs.zip (intsP 0 rs.length)).map (·.2)))), _) = _
    have p1 : (rs.zip (intsP 0 rs.length)).map (·.1) = rs := List.map_fst_zip (by rw [ints_len]; exact Nat.le_refl _)
    have p2 : (rs.zip (intsP 0 rs.length)).map (·.2) = intsP 0 rs.length := List.map_snd_zip (by rw [ints_len]; exact Nat.le_refl _)
    rw [p1, p2]
  have f3 : sFldS 0 1 (mVar 0) (mDctT (iEnumA (aCons (mVar 1) (aNil))) (gU 2 (gsCons (gN 2) (gsCons (gN 3) (gsNil)))) (tYesM) (mVar 3) (mVar 2) [2, 3]) S0 (h0.set n (.ins 0 [wordsP rs])) = some (.ok .nx, S0, h0.set n (.ins 0 [wordsP rs, D])) := by
    unfold sFldS
    rw [g3]
    simp only [bndS, var_ok (S := S0) (i := 0) rfl, wFld, at1]
    show some (Except.ok Fl.nx, S0, (h0.set n (.ins 0 [wordsP rs])).set n (.ins 0 ([wordsP rs] ++ [D]))) = _
    rw [List.set_set]; rfl
  have at2 : (h0.set n (.ins 0 [wordsP rs, D]))[n]? = some (.ins 0 [wordsP rs, D]) := List.getElem?_set_self hn
  have f4 : sFldM 0 2 (mVar 0) S0 (h0.set n (.ins 0 [wordsP rs, D])) = some (.ok .nx, S0, h0.set n (codeP rs)) := by
    unfold sFldM
    rw [var_ok (S := S0) (i := 0) rfl]
    simp only [bndS, kFldM, at2]
    show some (Except.ok Fl.nx, S0, (h0.set n (.ins 0 [wordsP rs, D])).set n (.ins 0 ([wordsP rs, D] ++ [.mem 0 [wordsP rs, D]]))) = _
    rw [List.set_set]; rfl
  have e : b_Code_init S0 h0 = some (.ok .nx, S0, h0.set n (codeP rs)) := by
    unfold b_Code_init
    exact (seq_nx f1).trans ((seq_nx f2).trans ((seq_nx f3).trans ((seq_nx f4).trans rfl)))
  have pu : ∀ l : List P, pures (l.map Vl.p) = some l := fun l => by
    induction l with
    | nil => rfl
    | cons d l ih => simp only [List.map_cons, pures, ih]
  have e2 : R_Code_init (.ref n :: (rs.map mkT).map Vl.p) h0 = some (.ok (.p .non), (h0.set n (codeP rs)).take h0.length) := by
    show fnRunStar 1 4 false b_Code_init (.ref n :: (rs.map mkT).map Vl.p) h0 = _
    unfold fnRunStar
    simp only [List.drop_succ_cons, List.drop_zero, pu]
    have c : 1 ≤ (Vl.ref n :: (rs.map mkT).map Vl.p).length ∧ (rs.map mkT).length ≤ 16777216 := ⟨by simp, by have := W.hi; simp; omega⟩
    rw [if_pos c]
    show fnRun 2 4 false b_Code_init [.ref n, .p (wordsP rs)] h0 = _
    exact run_nx (n := 4) (args := [Vl.ref n, .p (wordsP rs)]) (S' := S0) rfl e
  rw [List.take_of_length_le (by rw [List.length_set]; exact Nat.le_refl _)] at e2
  have e3 : R_Code_init (.ref h.length :: (rs.map mkT).map Vl.p) (h ++ [.ins 0 []]) = some (.ok (.p .non), h0.set n (codeP rs)) := e2
  unfold kMake
  rw [e3]
  show EV.backV false n (.ref n) (h0.set n (codeP rs)) = _
  have at3 : (h0.set n (codeP rs))[n]? = some (codeP rs) := List.getElem?_set_self hn
  have tk : (h0.set n (codeP rs)).take n = h := by
    rw [List.take_set_of_le (Nat.le_refl _)]
    simp [h0, n]
  rw [back_ref (Nat.lt_irrefl n) at3, tk]
  rfl
/-! ### the text of words, and its code -/
theorem seqP_rows (rs : List (List Int)) : seqP (.p (wordsP rs)) = some (rs.map mkT) := rfl
theorem codeRead_ok {rs : List (List Int)} {w : Nat} (W : Wrds rs w) (h : Hs) : R_Code_read [.p (.fn 1000), .p (.str (textS rs))] h = some (.ok (.p (codeP rs)), h) := by
  let S0 : Sl := [some (.p (.fn 1000)), some (.p (.str (textS rs))), none]
  let S1 : Sl := [some (.p (.fn 1000)), some (.p (.str (textS rs))), some (.p (wordsP rs))]
  have f1 : sSet 2 (mAll R_read_words (aCons (mVar 1) (aNil))) S0 [] = some (.ok .nx, S1, []) :=
    set_ok (by rw [all1 (var_ok (S := S0) (i := 1) rfl)]; exact read_ok W [])
  have f2 : sIf (mNotT (mT (mAll R_are_words (aCons (mVar 2) (aNil))))) (sSeq (sRaiseA 7 (aCons (mC (.str "the text of a code is required")) (aNil))) (sNil)) (sNil) S1 [] = some (.ok .nx, S1, []) :=
    (if_ff (notT_ok (q := true) (mT_ok (by rw [all1 (var_ok (S := S1) (i := 2) rfl)]; exact areWords_ok W [])))).trans rfl
  have f3 : sRet (mAll (kMake 0 false R_Code_init) (aStar (mVar 2) aNil)) S1 [] = some (.ok (.rt (.p (codeP rs))), S1, []) :=
    ret_ok (by
      have e : aStar (mVar 2) aNil S1 [] = some (.ok ((rs.map mkT).map Vl.p), []) := by
        unfold aStar
        rw [var_ok (S := S1) (i := 2) rfl]
        simp only [bnd, seqP_rows, aNil, EV.ret, List.append_nil]
      rw [all_ok e]; exact init_ok W [])
  have e : b_Code_read S0 [] = some (.ok (.rt (.p (codeP rs))), S1, []) := by
    unfold b_Code_read
    exact (seq_nx f1).trans ((seq_nx f2).trans (seq_rt f3))
  exact frame_rt (np := 2) (n := 3) (ds := [.fn 1000, .str (textS rs)]) (args := [.p (.fn 1000), .p (.str (textS rs))]) rfl rfl e h
theorem text_sum {rs : List (List Int)} {w : Nat} (W : Wrds rs w) : ((rs.map fun r => rowS r ++ (⟨#[10]⟩ : Str)).map (·.length)).sum ≤ 16777216 := by
  have e : ∀ l : List (List Int), (∀ r ∈ l, r.length = w) → ((l.map fun r => rowS r ++ (⟨#[10]⟩ : Str)).map (·.length)).sum = l.length * (w + 1) := by
    intro l hl
    induction l with
    | nil => simp
    | cons r l ih =>
      have ih := ih fun s hs => hl s (List.mem_cons_of_mem _ hs)
      have hr := hl r List.mem_cons_self
      simp only [List.map_cons, List.sum_cons, ih, Str.length_append, row_len, hr, List.length_cons, Nat.succ_mul]
      show w + 1 + _ = _
      omega
  rw [e rs W.wd]
  have a := W.hi
  have b := W.w1
  calc rs.length * (w + 1) ≤ 16 * (w + 1) := Nat.mul_le_mul_right _ a
    _ ≤ 16777216 := by omega
theorem fAdd_str {x y : Str} {h : Hs} (hz : x.length + y.length ≤ 16777216) : fAdd (.p (.str x)) (.p (.str y)) h = some (.ok (.p (.str (x ++ y))), h) := by
  simp only [fAdd, if_pos hz, EV.ret]
/-- _law_made(words) -/
theorem made_ok {rs : List (List Int)} {w : Nat} (W : Wrds rs w) (h : Hs) : R_law_made [.p (wordsP rs)] h = some (.ok (.p (codeP rs)), h) := by
  let S0 : Sl := [some (.p (wordsP rs)), none, none]
  let f : P → P := fun d => match tupI1 d with
    | some r => .str (rowS r ++ ⟨#[10]⟩)
    | none => .non
  have g : mComp (iAny (mVar 0)) (gN 1) (tYesM) (m2 fAdd (mMethS fJoin (mC (.str "")) (aCons (mComp (iAny (mVar 1)) (gN 2) (tYesM) (mAll kStr (aCons (mVar 2) (aNil))) [2]) (aNil))) (mC (.str "\n"))) [1] S0 [] = some (.ok (.p (.lst ((rs.map mkT).map f))), []) := by
    refine comp_map f (any_tup (var_ok (S := S0) (i := 0) rfl)) (by have := W.hi; simp; omega) fun d hd => ?_
    obtain ⟨r, hr, rfl⟩ := List.mem_map.mp hd
    refine ⟨_, rfl, ?_⟩
    have lr := W.wd r hr
    have w5 := W.w1
    rw [m2_ok (rowjoin_ok (r := r) (i := 1) (j := 2) (by decide) (by omega) (W.bt r hr) (by simp [wipeS, S0]) rfl) c_ok, nl_eq, fAdd_str (by rw [row_len]; show r.length + 1 ≤ _; omega)]
    simp only [f, tupI1_mk]
  have ef : (rs.map mkT).map f = (rs.map fun r => rowS r ++ (⟨#[10]⟩ : Str)).map P.str := by
    rw [List.map_map, List.map_map]
    exact List.map_congr_left fun r _ => by simp only [Function.comp, f, tupI1_mk]
  have g2 : mMethS fJoin (mC (.str "")) (aCons (mComp (iAny (mVar 0)) (gN 1) (tYesM) (m2 fAdd (mMethS fJoin (mC (.str "")) (aCons (mComp (iAny (mVar 1)) (gN 2) (tYesM) (mAll kStr (aCons (mVar 2) (aNil))) [2]) (aNil))) (mC (.str "\n"))) [1]) (aNil)) S0 [] = some (.ok (.p (.str (textS rs))), []) := by
    refine (mMethS_ok c_ok (cons_ok g nil_ok)).trans ?_
    rw [ef, fJoin_ok (text_sum W)]; rfl
  have f3 : sRet (mAll (kCm 0 R_Code_read) (aCons (mMethS fJoin (mC (.str "")) (aCons (mComp (iAny (mVar 0)) (gN 1) (tYesM) (m2 fAdd (mMethS fJoin (mC (.str "")) (aCons (mComp (iAny (mVar 1)) (gN 2) (tYesM) (mAll kStr (aCons (mVar 2) (aNil))) [2]) (aNil))) (mC (.str "\n"))) [1]) (aNil))) (aNil))) S0 [] = some (.ok (.rt (.p (codeP rs))), S0, []) :=
    ret_ok (by rw [all1 g2]; exact codeRead_ok W [])
  have e : b_law_made S0 [] = some (.ok (.rt (.p (codeP rs))), S0, []) := by
    unfold b_law_made
    exact seq_rt f3
  exact frame_rt (np := 1) (n := 3) (ds := [wordsP rs]) (args := [.p (wordsP rs)]) rfl rfl e h
end Lw
end T47
section T48
set_option Elab.async false
set_option linter.all false
set_option maxRecDepth 100000
namespace Lw
open PySem PySem.Spec PyProof.Rows L2 EV
/-! ### data whose repr is short -/
def Asc (s : Str) : Prop := ∀ c ∈ s.cps.toList, c < 128
theorem Asc.app {a b : Str} (ha : Asc a) (hb : Asc b) : Asc (a ++ b) := fun c hc => by
  rw [app_list] at hc
  rcases List.mem_append.mp hc with z | z
  · exact ha c z
  · exact hb c z
theorem Asc.join {sep : Str} (hs : Asc sep) : ∀ {ts : List Str}, (∀ t ∈ ts, Asc t) → Asc (Str.join sep ts)
  | [], _ => fun c hc => by simp [Str.join, Str.empty] at hc
  | [x], h => h x List.mem_cons_self
  | x :: y :: r, h => by
    show Asc (x ++ sep ++ Str.join sep (y :: r))
    exact ((h x List.mem_cons_self).app hs).app (Asc.join hs fun t ht => h t (List.mem_cons_of_mem _ ht))
theorem asc_of {s : Str} (h : (s.cps.toList.all fun c => decide (c < 128)) = true) : Asc s := fun c hc => of_decide_eq_true (List.all_eq_true.mp h c hc)
/-- .. by depth and length -/
def Tm (p : P) (k L : Nat) : Prop := ∃ x, pyOf p = some x ∧ PyData.canLay0 x = true ∧ PyData.depth x ≤ k ∧ PyData.showable x = true ∧ PyData.hasDict x = false ∧ (PyData.shown x).length ≤ L ∧ Asc (PyData.shown x)
theorem Tm.mono {p : P} {k L k' L' : Nat} (h : Tm p k L) (hk : k ≤ k') (hL : L ≤ L') : Tm p k' L' := by
  obtain ⟨x, a, b, c, d, e, f, g⟩ := h
  exact ⟨x, a, b, Nat.le_trans c hk, d, e, Nat.le_trans f hL, g⟩
def smallB : Bool := (List.range 64).all fun n => decide ((PyData.shown (.int n)).length ≤ 2) && ((PyData.shown (.int n)).cps.toList.all fun c => decide (c < 128)) && PyData.showable (.int n)
theorem smallB_ok : smallB = true := by decide +kernel
theorem Tm.int {i : Int} (h0 : 0 ≤ i) (h1 : i < 64) : Tm (.int i) 0 2 := by
  obtain ⟨n, rfl⟩ : ∃ n : Nat, i = n := ⟨i.toNat, by omega⟩
  have z := List.all_eq_true.mp smallB_ok n (List.mem_range.mpr (by omega))
  simp only [Bool.and_eq_true, decide_eq_true_eq] at z
  exact ⟨.int n, rfl, rfl, Nat.le_refl _, z.2, rfl, z.1.1, asc_of z.1.2⟩
theorem Tm.bl (b : Bool) : Tm (.bl b) 0 5 := by
  cases b
  · exact ⟨.bool false, rfl, rfl, Nat.le_refl _, rfl, rfl, by decide +kernel, asc_of (by decide +kernel)⟩
  · exact ⟨.bool true, rfl, rfl, Nat.le_refl _, rfl, rfl, by decide +kernel, asc_of (by decide +kernel)⟩
theorem Tm.non : Tm .non 0 4 := ⟨.none, rfl, rfl, Nat.le_refl _, rfl, rfl, by decide +kernel, asc_of (by decide +kernel)⟩
theorem tmAll {k L : Nat} : ∀ {ds : List P}, (∀ d ∈ ds, Tm d k L) → ∃ xs, pyAll ds = some xs ∧ PyData.canLayAll0 xs = true ∧ PyData.depthAll xs ≤ k ∧ PyData.showableAll xs = true ∧ PyData.hasDictAll xs = false ∧ xs.length = ds.length ∧
    (PyData.shownAll xs).length = ds.length ∧ ((PyData.shownAll xs).map (·.length)).sum ≤ ds.length * L ∧ ∀ t ∈ PyData.shownAll xs, Asc t
  | [], _ => ⟨[], rfl, rfl, Nat.zero_le _, rfl, rfl, rfl, rfl, by simp [PyData.shownAll], fun t ht => by simp [PyData.shownAll] at ht⟩
  | d :: ds, h => by
    obtain ⟨x, a, b, c, e, f, g, j⟩ := h d List.mem_cons_self
    obtain ⟨xs, a', b', c', e', f', g1, g2, g', j'⟩ := tmAll (k := k) (L := L) fun d hd => h d (List.mem_cons_of_mem _ hd)
    refine ⟨x :: xs, by simp only [pyAll, a, a'], ?_, ?_, ?_, ?_, by simp [g1], ?_, ?_, ?_⟩
    · simp only [PyData.canLayAll0, b, b', Bool.and_self]
    · simp only [PyData.depthAll]; omega
    · simp only [PyData.showableAll, e, e', Bool.and_self]
    · simp only [PyData.hasDictAll, f, f', Bool.or_self]
    · simp only [PyData.shownAll, List.length_cons, g2]
    · simp only [PyData.shownAll, List.map_cons, List.sum_cons, List.length_cons, Nat.succ_mul]; omega
    · intro t ht
      simp only [PyData.shownAll] at ht
      rcases List.mem_cons.mp ht with z | z
      · rw [z]; exact j
      · exact j' t z
theorem join_le {ts : List Str} {m : Nat} (h : (ts.map (·.length)).sum ≤ m) : (Str.join ", " ts).length ≤ m + ts.length * 2 := by
  have z := StrLaws.join_length_le ", " ts
  have l : (", " : Str).length = 2 := by rfl
  rw [l] at z; omega
theorem Tm.tup {ds : List P} {k L : Nat} (h : ∀ d ∈ ds, Tm d k L) : Tm (.tup ds) (k + 1) (ds.length * (L + 2) + 3) := by
  obtain ⟨xs, a, b, c, e, f, g1, g2, g, j⟩ := tmAll h
  have jl := join_le g
  rw [g2] at jl
  have ja : Asc (Str.join ", " (PyData.shownAll xs)) := Asc.join (asc_of (by decide +kernel)) j
  have sh : PyData.shown (.tuple xs) = ("(" : Str) ++ Str.join ", " (PyData.shownAll xs) ++ (if (PyData.shownAll xs).length == 1 then ",)" else ")" : String) := by simp only [PyData.shown, tupleText]
  have l1 : ("(" : Str).length = 1 := by rfl
  have l2 : (((if (PyData.shownAll xs).length == 1 then ",)" else ")" : String)) : Str).length ≤ 2 := by split <;> decide +kernel
  refine ⟨.tuple xs, by simp only [pyOf, a], b, ?_, e, f, ?_, ?_⟩
  · show PyData.depthAll xs + 1 ≤ k + 1; omega
  · rw [sh, Str.length_append, Str.length_append, l1, Nat.mul_add]; omega
  · rw [sh]
    refine ((asc_of (by decide +kernel)).app ja).app ?_
    split <;> exact asc_of (by decide +kernel)
theorem from_ok (k : Nat) : ∀ (ts : List Str) (acc : Str), Asc acc → (∀ t ∈ ts, Asc t) → Asc (textFrom k acc ts) ∧ (textFrom k acc ts).length ≤ acc.length + (ts.map (·.length)).sum + ts.length * 2
  | [], acc, ha, _ => ⟨ha, by show acc.length ≤ _; omega⟩
  | t :: r, acc, ha, h => by
    have e : Asc (((if k > 0 then ", " else "" : String)) : Str) ∧ (((if k > 0 then ", " else "" : String)) : Str).length ≤ 2 := by
      split
      · exact ⟨asc_of (by decide +kernel), by decide +kernel⟩
      · exact ⟨asc_of (by decide +kernel), by decide +kernel⟩
    have ih := from_ok (k + 1) r (acc ++ (if k > 0 then ", " else "" : String) ++ t) ((ha.app e.1).app (h t List.mem_cons_self)) fun u hu => h u (List.mem_cons_of_mem _ hu)
    refine ⟨ih.1, Nat.le_trans ih.2 ?_⟩
    rw [Str.length_append, Str.length_append]
    simp only [List.map_cons, List.sum_cons, List.length_cons, Nat.succ_mul]
    have := e.2
    omega
theorem Tm.lst {ds : List P} {k L : Nat} (h : ∀ d ∈ ds, Tm d k L) : Tm (.lst ds) (k + 1) (ds.length * (L + 2) + 3) := by
  obtain ⟨xs, a, b, c, e, f, g1, g2, g, j⟩ := tmAll h
  have z := from_ok 0 (PyData.shownAll xs) "[" (asc_of (by decide +kernel)) j
  have sh : PyData.shown (.list xs) = textFrom 0 "[" (PyData.shownAll xs) ++ "]" := by simp only [PyData.shown, listText]
  have l1 : ("[" : Str).length = 1 := by rfl
  have l2 : ("]" : Str).length = 1 := by rfl
  refine ⟨.list xs, by simp only [pyOf, a], b, ?_, e, f, ?_, ?_⟩
  · show PyData.depthAll xs + 1 ≤ k + 1; omega
  · rw [sh, Str.length_append, l2, Nat.mul_add]
    have := z.2
    rw [l1, g2] at this
    omega
  · rw [sh]; exact z.1.app (asc_of (by decide +kernel))
theorem Tm.row {r : List Int} (hr : r.length ≤ 5) (hb : ∀ x ∈ r, 0 ≤ x ∧ x < 64) : Tm (mkT r) 1 23 := by
  refine (Tm.tup (k := 0) (L := 2) fun d hd => ?_).mono (Nat.le_refl _) ?_
  · obtain ⟨x, hx, rfl⟩ := List.mem_map.mp hd
    exact Tm.int (hb x hx).1 (hb x hx).2
  · rw [List.length_map]; omega
/-! ### _law_same -/
theorem Tm.repr {p : P} {k L : Nat} (t : Tm p k L) (hk : k ≤ 60) (hL : L ≤ 16777216) (h : Hs) : ∃ s : Str, kRepr [.p p] h = some (.ok (.p (.str s)), h) ∧ Asc s := by
  obtain ⟨x, a, b, c, d, e, f, g⟩ := t
  refine ⟨PyData.shown x, ?_, g⟩
  have ok : reprOk x = true := by
    unfold reprOk
    simp only [d, e, Bool.true_and, Bool.not_false, Bool.and_true, Bool.and_eq_true, decide_eq_true_eq]
    exact ⟨by omega, by omega⟩
  have pv : pyV (.p p) h = some x := a
  simp only [kRepr, pv, ok, if_true, EV.ret]
theorem eq_str {s : Str} (a : Asc s) (h : Hs) : fEqD false (.p (.str s)) (.p (.str s)) h = some (.ok (.p (.bl true)), h) := by
  have st : PyData.strOk s = true := by
    unfold PyData.strOk
    rw [← Array.all_toList]
    exact List.all_eq_true.mpr fun c hc => decide_eq_true (Nat.lt_trans (a c hc) (by decide))
  have sh : SeqAt.shaped (.str s) = true := by
    unfold SeqAt.shaped
    have c0 : PyData.canLay0 (.str s) = true := st
    rw [c0]; rfl
  have ev : PyData.eqv (.str s) (.str s) = true := by
    show (s == s) = true
    simp
  show (if SeqAt.shaped (.str s) = true ∧ SeqAt.shaped (.str s) = true then pB (if false then !PyData.eqv (.str s) (.str s) else PyData.eqv (.str s) (.str s)) h else none) = _
  rw [if_pos ⟨sh, sh⟩, ev]; rfl
theorem same_ok {p : P} {k L : Nat} (t : Tm p k L) (hk : k ≤ 60) (hL : L ≤ 16777216) (h : Hs) : R_law_same [.p p, .p p] h = some (.ok (.p (.bl true)), h) := by
  obtain ⟨s, e, a⟩ := t.repr hk hL []
  let S0 : Sl := [some (.p p), some (.p p)]
  have f1 : sRet (m2 (fEqD false) (mAll kRepr (aCons (mVar 0) (aNil))) (mAll kRepr (aCons (mVar 1) (aNil)))) S0 [] = some (.ok (.rt (.p (.bl true))), S0, []) :=
    ret_ok (by rw [m2_ok (by rw [all1 (var_ok (S := S0) (i := 0) rfl)]; exact e) (by rw [all1 (var_ok (S := S0) (i := 1) rfl)]; exact e)]; exact eq_str a [])
  exact frame_rt (np := 2) (n := 2) (ds := [p, p]) (args := [.p p, .p p]) (b := b_law_same) rfl rfl (seq_rt f1) h
end Lw
end T48
section T49
set_option Elab.async false
set_option linter.all false
set_option maxRecDepth 1000000
namespace Lw.k15
open PySem PySem.Spec PyProof.Rows L2 EV
/-! ### data that are the same, small data -/
def eqP : Nat → P → P → Bool
  | _, .non, .non => true
  | _, .bl a, .bl b => a == b
  | _, .int a, .int b => decide (a = b)
  | n + 1, .tup a, .tup b => decide (a.length = b.length) && (a.zip b).all fun z => eqP n z.1 z.2
  | n + 1, .lst a, .lst b => decide (a.length = b.length) && (a.zip b).all fun z => eqP n z.1 z.2
  | _, _, _ => false
theorem zip_eq {n : Nat} (ih : ∀ a b, eqP n a b = true → a = b) : ∀ {a b : List P}, a.length = b.length → ((a.zip b).all fun z => eqP n z.1 z.2) = true → a = b
  | [], [], _, _ => rfl
  | x :: a, y :: b, hl, h => by
    simp only [List.zip_cons_cons, List.all_cons, Bool.and_eq_true] at h
    rw [ih x y h.1, zip_eq ih (by simpa using hl) h.2]
  | [], _ :: _, hl, _ => by simp at hl
  | _ :: _, [], hl, _ => by simp at hl
theorem eqP_eq : ∀ n a b, eqP n a b = true → a = b
  | 0, a, b, h => by
    cases a <;> cases b <;> simp [eqP] at h ⊢
    all_goals exact h
  | n + 1, a, b, h => by
    cases a <;> cases b <;> simp only [eqP] at h ⊢ <;> first | rfl | cases h | skip
    · rw [beq_iff_eq.mp h]
    · rw [of_decide_eq_true h]
    · rw [Bool.and_eq_true] at h
      rw [zip_eq (eqP_eq n) (of_decide_eq_true h.1) h.2]
    · rw [Bool.and_eq_true] at h
      rw [zip_eq (eqP_eq n) (of_decide_eq_true h.1) h.2]
def smallP : Nat → P → Bool
  | _, .non => true
  | _, .bl _ => true
  | _, .int i => decide (-1 ≤ i) && decide (i < 64)
  | n + 1, .tup a => decide (a.length ≤ 32) && a.all (smallP n)
  | n + 1, .lst a => decide (a.length ≤ 32) && a.all (smallP n)
  | _, _ => false
def Lb : Nat → Nat
  | 0 => 5
  | n + 1 => 32 * (Lb n + 2) + 3
theorem five_le : ∀ n, 5 ≤ Lb n
  | 0 => Nat.le_refl _
  | n + 1 => by have := five_le n; show 5 ≤ 32 * (Lb n + 2) + 3; omega
theorem neg_tm : Tm (.int (-1)) 0 2 := ⟨.int (-1), rfl, rfl, Nat.le_refl _, by decide +kernel, rfl, by decide +kernel, asc_of (by decide +kernel)⟩
theorem small_tm : ∀ n d, smallP n d = true → Tm d n (Lb n) := fun n => by
  induction n with
  | zero =>
    intro d h
    cases d with
    | non => exact Tm.non.mono (by decide) (by decide)
    | bl b => exact (Tm.bl b).mono (by decide) (by decide)
    | int i =>
      simp only [smallP, Bool.and_eq_true, decide_eq_true_eq] at h
      by_cases c : 0 ≤ i
      · exact (Tm.int c h.2).mono (by decide) (by decide)
      · rw [show i = -1 by omega]; exact neg_tm.mono (by decide) (by decide)
    | _ => simp [smallP] at h
  | succ n ih =>
    intro d h
    have l5 := five_le n
    cases d with
    | non => exact Tm.non.mono (by omega) (by show 4 ≤ 32 * (Lb n + 2) + 3; omega)
    | bl b => exact (Tm.bl b).mono (by omega) (by show 5 ≤ 32 * (Lb n + 2) + 3; omega)
    | int i =>
      simp only [smallP, Bool.and_eq_true, decide_eq_true_eq] at h
      by_cases c : 0 ≤ i
      · exact (Tm.int c h.2).mono (by omega) (by show 2 ≤ 32 * (Lb n + 2) + 3; omega)
      · rw [show i = -1 by omega]; exact neg_tm.mono (by omega) (by show 2 ≤ 32 * (Lb n + 2) + 3; omega)
    | tup a =>
      simp only [smallP, Bool.and_eq_true, decide_eq_true_eq, List.all_eq_true] at h
      refine (Tm.tup (k := n) (L := Lb n) fun d hd => ih d (h.2 d hd)).mono (Nat.le_refl _) ?_
      show a.length * (Lb n + 2) + 3 ≤ 32 * (Lb n + 2) + 3
      have := Nat.mul_le_mul_right (Lb n + 2) h.1
      omega
    | lst a =>
      simp only [smallP, Bool.and_eq_true, decide_eq_true_eq, List.all_eq_true] at h
      refine (Tm.lst (k := n) (L := Lb n) fun d hd => ih d (h.2 d hd)).mono (Nat.le_refl _) ?_
      show a.length * (Lb n + 2) + 3 ≤ 32 * (Lb n + 2) + 3
      have := Nat.mul_le_mul_right (Lb n + 2) h.1
      omega
    | _ => simp [smallP] at h
/-! ### texts in a row -/
def runs : List MS → MS → MS
  | [], b => b
  | a :: l, b => sSeq a (runs l b)
theorem runs_nx : ∀ {l : List MS} {b : MS} {S S' : Sl} {h h' : Hs}, runs l sNil S h = some (.ok .nx, S', h') → runs l b S h = b S' h'
  | [], b, S, S', h, h', e => by
    have e : some (Except.ok Fl.nx, S, h) = some (Except.ok Fl.nx, S', h') := e
    cases e; rfl
  | a :: l, b, S, S', h, h', e => by
    have e : sSeq a (runs l sNil) S h = _ := e
    show sSeq a (runs l b) S h = _
    match q : a S h with
    | none => unfold sSeq at e; rw [q] at e; cases e
    | some (.error c, S1, h1) => unfold sSeq at e; rw [q] at e; cases e
    | some (.ok .nx, S1, h1) => rw [seq_nx q] at e ⊢; exact runs_nx e
    | some (.ok (.rt v), S1, h1) => unfold sSeq at e; rw [q] at e; cases e
    | some (.ok .bk, S1, h1) => unfold sSeq at e; rw [q] at e; cases e
    | some (.ok .ct, S1, h1) => unfold sSeq at e; rw [q] at e; cases e
def a0 : MS := sPar 4 5 (aCons (mAll (kMake 0 false R_Code_init) (aCons (mAll kTupD (aCons (mC (.int 0)) (aCons (mC (.int 0)) (aNil)))) (aCons (mAll kTupD (aCons (mC (.int 0)) (aCons (mC (.int 1)) (aNil)))) (aCons (mAll kTupD (aCons (mC (.int 1)) (aCons (mC (.int 0)) (aNil)))) (aCons (mAll kTupD (aCons (mC (.int 1)) (aCons (mC (.int 1)) (aNil)))) (aNil)))))) (aCons (mAll (kMake 0 false R_Code_init) (aCons (mAll kTupD (aCons (mC (.int 0)) (aCons (mC (.int 0)) (aNil)))) (aCons (mAll kTupD (aCons (mC (.int 0)) (aCons (mC (.int 1)) (aNil)))) (aCons (mAll kTupD (aCons (mC (.int 1)) (aCons (mC (.int 1)) (aNil)))) (aCons (mAll kTupD (aCons (mC (.int 1)) (aCons (mC (.int 0)) (aNil)))) (aNil)))))) (aNil)))
def a1 : MS := sSet 6 (mAll kLstD (aCons (mCallOK 0 1 [0] R_Code_call (mVar 4) (aCons (mVar 0) (aNil))) (aCons (m2 (fSubO 0 R_Code_getitem) (mVar 4) (m2 fIdx (mProp 0 R_Code_words (mVar 4)) (mVar 0))) (aCons (mProp 0 R_Code_words (mAll (kPrm1 1 [0] (.p (.fn 1000)) R_Code_read) (aCons (mMethO 0 R_Code_text (mVar 4) aNil) (aNil)))) (aCons (mProp 0 R_Code_words (mAll (kPrm 2 [1, 0] R_turned) (aCons (mVar 0) (aCons (mVar 4) (aNil))))) (aNil))))))
def a2 : MS := sSet 6 (m2 fAdd (mVar 6) (mAll kLstD (aCons (mProp 0 R_Code_words (mAll (kPrm 2 [1, 0] R_renamed) (aCons (mVar 2) (aCons (mVar 4) (aNil))))) (aCons (mProp 0 R_Code_words (mAll (kPrm 2 [1, 0] R_flipped) (aCons (mVar 3) (aCons (mVar 4) (aNil))))) (aNil)))))
def a3 : MS := sSet 6 (m2 fAdd (mVar 6) (mAll kLstD (aCons (mAll (kPrm 2 [1, 0] R_alike) (aCons (mVar 5) (aCons (mVar 4) (aNil)))) (aCons (mAll (kPrm 2 [1, 0] R_alike) (aCons (mVar 4) (aCons (mAll R_turned (aCons (mVar 4) (aCons (mVar 0) (aNil)))) (aNil)))) (aCons (mAll (kPrm 2 [1, 0] R_mixes) (aCons (mVar 0) (aCons (mVar 4) (aNil)))) (aNil))))))
def a4 : MS := sSet 6 (m2 fAdd (mVar 6) (mAll kLstD (aCons (mAll (kPrm 2 [1, 0] R_changes) (aCons (mVar 0) (aCons (mVar 4) (aNil)))) (aCons (mAll (kPrm 1 [0] R_is_single) (aCons (mVar 4) (aNil))) (aCons (mAll (kPrm 3 [2, 1, 0] R_readings) (aCons (mVar 1) (aCons (mVar 0) (aCons (mVar 4) (aNil))))) (aNil))))))
def a5 : MS := sSet 6 (m2 fAdd (mVar 6) (mAll kLstD (aCons (mAll (kPrm 2 [1, 0] R_off) (aCons (mVar 1) (aCons (mVar 4) (aNil)))) (aCons (mAll (kPrm 2 [1, 0] R_far_off) (aCons (mVar 1) (aCons (mVar 4) (aNil)))) (aCons (mAll (kPrm 2 [1, 0] R_holes) (aCons (mVar 1) (aCons (mVar 4) (aNil)))) (aNil))))))
def a6 : MS := sSet 6 (m2 fAdd (mVar 6) (mAll kLstD (aCons (mAll (kPrm 3 [2, 1, 0] R_shows_off) (aCons (mC .non) (aCons (mVar 1) (aCons (mVar 4) (aNil))))) (aCons (mAll (kPrm 1 [0] R_tolerance) (aCons (mVar 5) (aNil))) (aNil)))))
def a7 : MS := sSet 7 (mAll kLstD (aCons (mCallO 0 R_Code_call (mVar 4) (aCons (mVar 0) (aNil))) (aCons (mVar 0) (aCons (mProp 0 R_Code_words (mVar 4)) (aCons (mProp 0 R_Code_words (mAll R_turned (aCons (mVar 4) (aCons (mVar 0) (aNil))))) (aCons (mProp 0 R_Code_words (mAll R_renamed (aCons (mVar 4) (aCons (mVar 2) (aNil))))) (aCons (mProp 0 R_Code_words (mAll R_flipped (aCons (mVar 4) (aCons (mVar 3) (aNil))))) (aNil))))))))
def a8 : MS := sSet 7 (m2 fAdd (mVar 7) (mAll kLstD (aCons (mAll R_alike (aCons (mVar 4) (aCons (mVar 5) (aNil)))) (aCons (mAll R_alike (aCons (mAll R_turned (aCons (mVar 4) (aCons (mVar 0) (aNil)))) (aCons (mVar 4) (aNil)))) (aCons (mAll R_mixes (aCons (mVar 4) (aCons (mVar 0) (aNil)))) (aCons (mAll R_changes (aCons (mVar 4) (aCons (mVar 0) (aNil)))) (aNil)))))))
def a9 : MS := sSet 7 (m2 fAdd (mVar 7) (mAll kLstD (aCons (mAll R_is_single (aCons (mVar 4) (aNil))) (aCons (mAll R_readings (aCons (mVar 4) (aCons (mVar 0) (aCons (mVar 1) (aNil))))) (aCons (mAll R_off (aCons (mVar 4) (aCons (mVar 1) (aNil)))) (aCons (mAll R_far_off (aCons (mVar 4) (aCons (mVar 1) (aNil)))) (aCons (mAll R_holes (aCons (mVar 4) (aCons (mVar 1) (aNil)))) (aNil))))))))
def due : ME := (m2 fAdd (mVar 7) (mAll kLstD (aCons (mAll R_shows_off (aCons (mVar 4) (aCons (mVar 1) (aCons (mC .non) (aNil))))) (aCons (mC (.int 1)) (aNil)))))
theorem right_eq : b_law_right_k15 = runs [a0, a1, a2, a3, a4, a5, a6, a7, a8, a9] (sSeq (sRet (mAll R_law_same (aCons (mVar 6) (aCons due (aNil))))) (sNil)) := rfl
/-- both lists are made, and are the same -/
def lookB (r : RS) : Bool := match r with
  | some (.ok .nx, S', []) => match mVar 6 S' [], due S' [] with
    | some (.ok (.p d), []), some (.ok (.p e), []) => eqP 4 d e && smallP 4 d
    | _, _ => false
  | _ => false
abbrev S0 (a b : Int) (w s : List Int) : Sl := [some (.p (.int a)), some (.p (.int b)), some (.p (mkT w)), some (.p (mkT s)), none, none, none, none]
def one (a b : Int) (w s : List Int) : Bool := lookB (runs [a0, a1, a2, a3, a4, a5, a6, a7, a8, a9] sNil (S0 a b w s) [])
theorem one_ok {a b : Int} {w s : List Int} (hB : one a b w s = true) (h : Hs) : R_law_right_k15 [.p (.int a), .p (.int b), .p (mkT w), .p (mkT s)] h = some (.ok (.p (.bl true)), h) := by
  unfold one lookB at hB
  split at hB
  · rename_i S' er
    split at hB
    · rename_i d e ed ee
      rw [Bool.and_eq_true] at hB
      have de := eqP_eq 4 d e hB.1
      subst de
      have tm := small_tm 4 d hB.2
      have f : sRet (mAll R_law_same (aCons (mVar 6) (aCons due (aNil)))) S' [] = some (.ok (.rt (.p (.bl true))), S', []) := ret_ok (by
        rw [all2 ed ee]
        exact same_ok tm (by decide) (by decide) [])
      refine frame_rt (np := 4) (n := 8) (ds := [.int a, .int b, mkT w, mkT s]) (args := [.p (.int a), .p (.int b), .p (mkT w), .p (mkT s)]) (b := b_law_right_k15) (S' := S') (h' := []) rfl rfl ?_ h
      rw [right_eq]
      exact (runs_nx er).trans (seq_rt f)
    · cases hB
  · cases hB
def eight (a b : Int) : Bool := [[0, 1], [1, 0]].all fun w => [[], [0], [1], [0, 1]].all fun s => one a b w s
def four (a : Int) : Bool := [0, 1, 2, 3].all fun b => eight a b
theorem f0 : four 0 = true := by decide +kernel
theorem f1 : four 1 = true := by decide +kernel
theorem f2 : four 2 = true := by decide +kernel
theorem f3 : four 3 = true := by decide +kernel
theorem all_ok {a b : Int} {w s : List Int} (a0 : 0 ≤ a) (a4 : a < 4) (b0 : 0 ≤ b) (b4 : b < 4) (hw : w ∈ ([[0, 1], [1, 0]] : List (List Int))) (hs : s ∈ ([[], [0], [1], [0, 1]] : List (List Int))) (h : Hs) : R_law_right_k15 [.p (.int a), .p (.int b), .p (mkT w), .p (mkT s)] h = some (.ok (.p (.bl true)), h) := by
  have fa : four a = true := by
    have c : a = 0 ∨ a = 1 ∨ a = 2 ∨ a = 3 := by omega
    rcases c with z | z | z | z <;> rw [z]
    · exact f0
    · exact f1
    · exact f2
    · exact f3
  have mb : b ∈ ([0, 1, 2, 3] : List Int) := by
    have c : b = 0 ∨ b = 1 ∨ b = 2 ∨ b = 3 := by omega
    rcases c with z | z | z | z <;> subst z <;> decide
  have e1 : eight a b = true := List.all_eq_true.mp fa b mb
  have e2 := List.all_eq_true.mp e1 w hw
  exact one_ok (List.all_eq_true.mp e2 s hs) h
theorem pick_ok (n : Nat) (h : Hs) (a b c : Int) (l : List (List Int)) (h0 : l ≠ []) (hl : l.length ≤ 1000) (hn : h[n]? = some (penL a b c)) : ∃ r a' b' c', R_law_pick [.ref n, .p (.lst (l.map mkT))] h = some (.ok (.p (mkT r)), h.set n (penL a' b' c')) ∧ r ∈ l := by
  have nl : n < h.length := (List.getElem?_eq_some_iff.mp hn).1
  have pos : 0 < l.length := List.length_pos_iff.mpr h0
  obtain ⟨j, a', b', c', e, j0, j1⟩ := draw_ok n h a b c l.length (by omega) (by omega) hn
  obtain ⟨i, rfl⟩ : ∃ i : Nat, j = i := ⟨j.toNat, by omega⟩
  have il : i < l.length := by omega
  refine ⟨l[i], a', b', c', ?_, List.getElem_mem il⟩
  rw [show R_law_pick [.ref n, .p (.lst (l.map mkT))] h = fnRun 2 2 false b_law_pick [.ref n, .p (.lst (l.map mkT))] h from rfl]
  let S0 : Sl := [some (.ref n), some (.p (.lst (l.map mkT)))]
  have ev : m2 fIdx (mVar 1) (mAll R_law_draw (aCons (mVar 0) (aCons (mAll kLen (aCons (mVar 1) (aNil))) (aNil)))) S0 h = some (.ok (.p (mkT l[i])), h.set n (penL a' b' c')) := by
    have e1 : mAll R_law_draw (aCons (mVar 0) (aCons (mAll kLen (aCons (mVar 1) (aNil))) (aNil))) S0 h = some (.ok (.p (.int i)), h.set n (penL a' b' c')) := by
      rw [all2 (var_ok (S := S0) (i := 0) rfl) (by rw [all1 (var_ok (S := S0) (i := 1) rfl), len_lst, List.length_map])]
      exact e
    rw [m2_ok (var_ok (S := S0) (i := 1) rfl) e1]
    exact fIdx_lst (by rw [List.getElem?_map, List.getElem?_eq_getElem il]; rfl)
  have r := run_rt (np := 2) (n := 2) (args := [.ref n, .p (.lst (l.map mkT))]) (b := b_law_pick) (S' := S0) (h := h) rfl (seq_rt (ret_ok ev))
  rw [r, List.take_of_length_le (by simp)]
theorem get_set {S : Sl} {i j : Nat} {x : Option Vl} {y : Option (Option Vl)} (h : i ≠ j) (e : S[j]? = y) : (S.set i x)[j]? = y := by rw [List.getElem?_set_ne h]; exact e
def bTurn : MS := (sSeq (sPar 4 5 (aCons (mAll R_law_pick (aCons (mVar 2) (aCons (mAll kLstD (aCons (mAll kTupD (aCons (mC (.int 0)) (aCons (mC (.int 1)) (aNil)))) (aCons (mAll kTupD (aCons (mC (.int 1)) (aCons (mC (.int 0)) (aNil)))) (aNil)))) (aNil)))) (aCons (mAll R_law_pick (aCons (mVar 2) (aCons (mAll kLstD (aCons (mAll kTupD (aNil)) (aCons (mAll kTupD (aCons (mC (.int 0)) (aNil))) (aCons (mAll kTupD (aCons (mC (.int 1)) (aNil))) (aCons (mAll kTupD (aCons (mC (.int 0)) (aCons (mC (.int 1)) (aNil)))) (aNil)))))) (aNil)))) (aNil)))) (sSeq (sIf (mNotT (mT (mAll R_law_right_k15 (aCons (mAll R_law_draw (aCons (mVar 2) (aCons (mC (.int 4)) (aNil)))) (aCons (mAll R_law_draw (aCons (mVar 2) (aCons (mC (.int 4)) (aNil)))) (aCons (mVar 4) (aCons (mVar 5) (aNil)))))))) (sSeq (sRet (mC (.bl false))) (sNil)) (sNil)) (sNil)))
def bK : MS := (sSeq (sSet 2 (mAll R_law_pen (aCons (mAll R_law_cell_at (aCons (mVar 0) (aCons (mVar 1) (aNil)))) (aNil)))) (sSeq (sFor (iRange1 (aCons (mC (.int 4)) (aNil))) (gN 3) bTurn) (sNil)))
theorem law_eq : b_law_k15 = sSeq (sFor (iRange1 (aCons (mAll kMax2 (aCons (mC (.int 1)) (aCons (mAll kMin2 (aCons (mAll kLen (aCons (mVar 0) (aNil))) (aCons (mC (.int 3)) (aNil)))) (aNil)))) (aNil))) (gN 1) bK) (sSeq (sRet (mC (.bl true))) (sNil)) := rfl
section
variable {S : Sl} {h : Hs}
theorem turn_ok {n : Nat} {a b c : Int} (hl : S.length = 6) (h2 : S[2]? = some (some (.ref n))) (hn : h[n]? = some (penL a b c)) :
    ∃ S' a' b' c', bTurn S h = some (.ok .nx, S', h.set n (penL a' b' c')) ∧ S'.length = 6 ∧ S'[0]? = S[0]? ∧ S'[2]? = S[2]? := by
  have nl : n < h.length := (List.getElem?_eq_some_iff.mp hn).1
  have gs : ∀ (k : Hs) p, k.length = h.length → (k.set n p)[n]? = some p := fun k p e => List.getElem?_set_self (by omega)
  obtain ⟨w, a1, b1, c1, e1, mw⟩ := pick_ok n h a b c [[0, 1], [1, 0]] (by decide) (by decide) hn
  have n1 := gs h (penL a1 b1 c1) rfl
  obtain ⟨s, a2, b2, c2, e2, msp⟩ := pick_ok n (h.set n (penL a1 b1 c1)) a1 b1 c1 [[], [0], [1], [0, 1]] (by decide) (by decide) n1
  rw [List.set_set] at e2
  have n2 := gs h (penL a2 b2 c2) rfl
  let h2' := h.set n (penL a2 b2 c2)
  let T : Sl := (S.set 4 (some (.p (mkT w)))).set 5 (some (.p (mkT s)))
  have f1 : (sPar 4 5 (aCons (mAll R_law_pick (aCons (mVar 2) (aCons (mAll kLstD (aCons (mAll kTupD (aCons (mC (.int 0)) (aCons (mC (.int 1)) (aNil)))) (aCons (mAll kTupD (aCons (mC (.int 1)) (aCons (mC (.int 0)) (aNil)))) (aNil)))) (aNil)))) (aCons (mAll R_law_pick (aCons (mVar 2) (aCons (mAll kLstD (aCons (mAll kTupD (aNil)) (aCons (mAll kTupD (aCons (mC (.int 0)) (aNil))) (aCons (mAll kTupD (aCons (mC (.int 1)) (aNil))) (aCons (mAll kTupD (aCons (mC (.int 0)) (aCons (mC (.int 1)) (aNil)))) (aNil)))))) (aNil)))) (aNil)))) S h = some (.ok .nx, T, h2') := by
    refine par_ok (cons_ok (h1 := h.set n (penL a1 b1 c1)) ?_ (cons_ok (h1 := h2') ?_ nil_ok))
    · refine (all2 (w := .p (.lst ([[0, 1], [1, 0]].map mkT))) (var_ok h2) rfl).trans ?_
      exact e1
    · refine (all2 (w := .p (.lst ([[], [0], [1], [0, 1]].map mkT))) (var_ok h2) rfl).trans ?_
      exact e2
  obtain ⟨r, a3, b3, c3, e3, r0, r1⟩ := draw_ok n h2' a2 b2 c2 4 (by decide) (by decide) n2
  rw [show h2'.set n (penL a3 b3 c3) = h.set n (penL a3 b3 c3) from List.set_set _] at e3
  have n3 := gs h (penL a3 b3 c3) rfl
  obtain ⟨q, a4, b4, c4, e4, q0, q1⟩ := draw_ok n (h.set n (penL a3 b3 c3)) a3 b3 c3 4 (by decide) (by decide) n3
  rw [List.set_set] at e4
  have t2 : T[2]? = _ := get_set (by decide) (get_set (by decide) h2)
  have t0 : T[0]? = S[0]? := get_set (by decide) (get_set (by decide) rfl)
  have t4 : T[4]? = some (some (.p (mkT w))) := get_set (by decide) (List.getElem?_set_self (by omega))
  have t5 : T[5]? = some (some (.p (mkT s))) := List.getElem?_set_self (by simp [hl])
  have tl : T.length = 6 := by simp [T, hl]
  refine ⟨T, a4, b4, c4, (seq_nx f1).trans (seqN.trans ((if_ff (notT_ok (q := true) (mT_ok ?_))).trans rfl)), tl, t0, by rw [t2, h2]⟩
  have d1 : mAll R_law_draw (aCons (mVar 2) (aCons (mC (.int 4)) (aNil))) T h2' = some (.ok (.p (.int r)), h.set n (penL a3 b3 c3)) := by rw [all2 (var_ok t2) c_ok]; exact e3
  have d2 : mAll R_law_draw (aCons (mVar 2) (aCons (mC (.int 4)) (aNil))) T (h.set n (penL a3 b3 c3)) = some (.ok (.p (.int q)), h.set n (penL a4 b4 c4)) := by rw [all2 (var_ok t2) c_ok]; exact e4
  refine (Lw.all_ok (cons_ok d1 (cons_ok d2 (cons_ok (var_ok t4) (cons_ok (var_ok t5) nil_ok))))).trans ?_
  exact all_ok r0 r1 q0 q1 mw msp _
theorem k_ok (ns : List Int) (k : Nat) (S : Sl) (h : Hs) (hl : S.length = 6) (h0 : S[0]? = some (some (.p (.scr (ns.map .int))))) (h1 : S[1]? = some (some (.p (.int k)))) : ∃ S' h', bK S h = some (.ok .nx, S', h') ∧ S'.length = 6 ∧ S'[0]? = S[0]? := by
  obtain ⟨a, b, c, e⟩ := cellpen_ok ns k h h0 h1
  let n := h.length
  let T : Sl := S.set 2 (some (.ref n))
  have f1 : sSet 2 (mAll R_law_pen (aCons (mAll R_law_cell_at (aCons (mVar 0) (aCons (mVar 1) (aNil)))) (aNil))) S h = some (.ok .nx, T, h ++ [penL a b c]) := set_ok e
  obtain ⟨S', h', e2, hI⟩ := for_inv (mi := iRange1 (aCons (mC (.int 4)) (aNil))) (g := gN 3) (body := bTurn) (S := T) (h := h ++ [penL a b c]) (h' := h ++ [penL a b c]) (L := intsP 0 4)
    (fun i U h' => U.length = 6 ∧ U[2]? = some (some (.ref n)) ∧ U[0]? = S[0]? ∧ ∃ a b c, h'[n]? = some (penL a b c)) (rng1 (n := 4) c_ok (by decide)) ⟨by simp [T, hl], List.getElem?_set_self (by omega), get_set (by decide) rfl, a, b, c, by simp [n]⟩ (by
      intro i d U h' hd ⟨q1, q2, q3, a, b, c, q4⟩
      obtain ⟨S', a', b', c', e, z1, z2, z3⟩ := turn_ok (S := U.set 3 (some (.p d))) (h := h') (by simp [q1]) (get_set (by decide) q2) q4
      exact ⟨_, S', _, rfl, e, z1, by rw [z3]; exact get_set (by decide) q2, by rw [z2]; exact get_set (by decide) q3, a', b', c', List.getElem?_set_self (List.getElem?_eq_some_iff.mp q4).1⟩)
  exact ⟨S', h', (seq_nx f1).trans (seqN.trans e2), hI.1, hI.2.2.1⟩
end
theorem law_true : ∀ ns : List Int, ns.length ≤ 63 → ∃ h2, fnRun 1 6 false b_law_k15 [.p (.scr (ns.map .int))] [] = some (.ok (.p (.bl true)), h2) := fun ns _ => by
  refine ⟨[], ?_⟩
  obtain ⟨S', h', e, _, _⟩ := forK_ok 6 3 ns (by decide) (by decide) (by decide) (k_ok ns) [some (.p (.scr (ns.map .int))), none, none, none, none, none] [] rfl rfl
  refine law_run (np := 1) (S' := S') (h' := h') ?_
  show b_law_k15 [some (.p (.scr (ns.map .int))), none, none, none, none, none] [] = _
  rw [law_eq]
  exact (seq_nx e).trans (seq_rt (ret_ok c_ok))
end Lw.k15
end T49
section T50
set_option Elab.async false
set_option linter.all false
set_option maxRecDepth 100000
namespace Lw
namespace k15
open PySem PySem.Spec PyProof.Rows L2 EV
def topS (i : Nat) : Stmt := PySem.Challenge.pw_halfread_k15_codes_by_names.main.body.getD i (.Pass ⟨0, 0, 0, 0⟩)
abbrev s_law_cell_at : Stmt := topS 60
theorem sc_law_cell_at : FnScope ["_law_script", "_law_k"] ["_law_script", "_law_k"] (defScope s_law_cell_at) := ⟨rfl, rfl, rfl, by decide +kernel, rfl, by decide +kernel, by decide +kernel⟩
abbrev s_law_pen : Stmt := topS 61
theorem sc_law_pen : FnScope ["_law_cell"] ["_law_cell"] (defScope s_law_pen) := ⟨rfl, rfl, rfl, by decide +kernel, rfl, by decide +kernel, by decide +kernel⟩
abbrev s_law_draw : Stmt := topS 62
theorem sc_law_draw : FnScope ["_law_pen_here", "_law_many", "_law_found", "_law_mixed"] ["_law_pen_here", "_law_many"] (defScope s_law_draw) := ⟨rfl, rfl, rfl, by decide +kernel, rfl, by decide +kernel, by decide +kernel⟩
abbrev s_law_pick : Stmt := topS 64
theorem sc_law_pick : FnScope ["_law_pen_here", "_law_some"] ["_law_pen_here", "_law_some"] (defScope s_law_pick) := ⟨rfl, rfl, rfl, by decide +kernel, rfl, by decide +kernel, by decide +kernel⟩
abbrev s_is_between : Stmt := topS 12
theorem sc_is_between : FnScope ["thing", "low", "high"] ["thing", "low", "high"] (defScope s_is_between) := ⟨rfl, rfl, rfl, by decide +kernel, rfl, by decide +kernel, by decide +kernel⟩
abbrev s_are_between : Stmt := topS 13
theorem sc_are_between : FnScope ["thing", "many", "low", "high", "part"] ["thing", "many", "low", "high"] (defScope s_are_between) := ⟨rfl, rfl, rfl, by decide +kernel, rfl, by decide +kernel, by decide +kernel⟩
abbrev s_is_word : Stmt := topS 19
theorem sc_is_word : FnScope ["thing", "bits"] ["thing", "bits"] (defScope s_is_word) := ⟨rfl, rfl, rfl, by decide +kernel, rfl, by decide +kernel, by decide +kernel⟩
abbrev s_are_words : Stmt := topS 20
theorem sc_are_words : FnScope ["words", "first", "word"] ["words"] (defScope s_are_words) := ⟨rfl, rfl, rfl, by decide +kernel, rfl, by decide +kernel, by decide +kernel⟩
abbrev s_Code_init : Stmt := inClass (topS 18) 0
theorem sc_Code_init : FnScope ["self", "words", "value", "word"] ["self", "words"] (defScope s_Code_init) := ⟨rfl, rfl, rfl, by decide +kernel, rfl, by decide +kernel, by decide +kernel⟩
abbrev s_Code_words : Stmt := inClass (topS 18) 1
theorem sc_Code_words : FnScope ["self"] ["self"] (defScope s_Code_words) := ⟨rfl, rfl, rfl, by decide +kernel, rfl, by decide +kernel, by decide +kernel⟩
abbrev s_check_value : Stmt := topS 22
theorem sc_check_value : FnScope ["code", "value"] ["code", "value"] (defScope s_check_value) := ⟨rfl, rfl, rfl, by decide +kernel, rfl, by decide +kernel, by decide +kernel⟩
abbrev s_Code_call : Stmt := inClass (topS 18) 4
theorem sc_Code_call : FnScope ["self", "value"] ["self", "value"] (defScope s_Code_call) := ⟨rfl, rfl, rfl, by decide +kernel, rfl, by decide +kernel, by decide +kernel⟩
abbrev s_Code_bits : Stmt := inClass (topS 18) 2
theorem sc_Code_bits : FnScope ["self"] ["self"] (defScope s_Code_bits) := ⟨rfl, rfl, rfl, by decide +kernel, rfl, by decide +kernel, by decide +kernel⟩
abbrev s_Code_getitem : Stmt := inClass (topS 18) 5
theorem sc_Code_getitem : FnScope ["self", "at"] ["self", "at"] (defScope s_Code_getitem) := ⟨rfl, rfl, rfl, by decide +kernel, rfl, by decide +kernel, by decide +kernel⟩
abbrev s_spelled : Stmt := topS 23
theorem sc_spelled : FnScope ["word", "bit"] ["word"] (defScope s_spelled) := ⟨rfl, rfl, rfl, by decide +kernel, rfl, by decide +kernel, by decide +kernel⟩
abbrev s_Code_text : Stmt := inClass (topS 18) 11
theorem sc_Code_text : FnScope ["self", "word"] ["self"] (defScope s_Code_text) := ⟨rfl, rfl, rfl, by decide +kernel, rfl, by decide +kernel, by decide +kernel⟩
abbrev s_read_words : Stmt := topS 24
theorem sc_read_words : FnScope ["text", "lines", "line", "bit"] ["text"] (defScope s_read_words) := ⟨rfl, rfl, rfl, by decide +kernel, rfl, by decide +kernel, by decide +kernel⟩
abbrev s_Code_read : Stmt := inClass (topS 18) 12
theorem sc_Code_read : FnScope ["cls", "text", "words"] ["cls", "text"] (defScope s_Code_read) := ⟨rfl, rfl, rfl, by decide +kernel, rfl, by decide +kernel, by decide +kernel⟩
abbrev s_check_code : Stmt := topS 21
theorem sc_check_code : FnScope ["code"] ["code"] (defScope s_check_code) := ⟨rfl, rfl, rfl, by decide +kernel, rfl, by decide +kernel, by decide +kernel⟩
abbrev s_turned : Stmt := topS 25
theorem sc_turned : FnScope ["code", "by", "words"] ["code", "by"] (defScope s_turned) := ⟨rfl, rfl, rfl, by decide +kernel, rfl, by decide +kernel, by decide +kernel⟩
abbrev s_is_whole : Stmt := topS 11
theorem sc_is_whole : FnScope ["thing"] ["thing"] (defScope s_is_whole) := ⟨rfl, rfl, rfl, by decide +kernel, rfl, by decide +kernel, by decide +kernel⟩
abbrev s_is_order : Stmt := topS 26
theorem sc_is_order : FnScope ["thing", "bits", "place"] ["thing", "bits"] (defScope s_is_order) := ⟨rfl, rfl, rfl, by decide +kernel, rfl, by decide +kernel, by decide +kernel⟩
abbrev s_moved : Stmt := topS 27
theorem sc_moved : FnScope ["word", "order", "bits", "bit", "place"] ["word", "order"] (defScope s_moved) := ⟨rfl, rfl, rfl, by decide +kernel, rfl, by decide +kernel, by decide +kernel⟩
abbrev s_renamed : Stmt := topS 28
theorem sc_renamed : FnScope ["code", "order", "word", "words"] ["code", "order"] (defScope s_renamed) := ⟨rfl, rfl, rfl, by decide +kernel, rfl, by decide +kernel, by decide +kernel⟩
abbrev s_are_places : Stmt := topS 29
theorem sc_are_places : FnScope ["thing", "bits", "place", "low", "high"] ["thing", "bits"] (defScope s_are_places) := ⟨rfl, rfl, rfl, by decide +kernel, rfl, by decide +kernel, by decide +kernel⟩
abbrev s_exchanged : Stmt := topS 30
theorem sc_exchanged : FnScope ["word", "places", "place", "bit"] ["word", "places"] (defScope s_exchanged) := ⟨rfl, rfl, rfl, by decide +kernel, rfl, by decide +kernel, by decide +kernel⟩
abbrev s_flipped : Stmt := topS 31
theorem sc_flipped : FnScope ["code", "places", "word", "words"] ["code", "places"] (defScope s_flipped) := ⟨rfl, rfl, rfl, by decide +kernel, rfl, by decide +kernel, by decide +kernel⟩
abbrev s_Code_len : Stmt := inClass (topS 18) 3
theorem sc_Code_len : FnScope ["self"] ["self"] (defScope s_Code_len) := ⟨rfl, rfl, rfl, by decide +kernel, rfl, by decide +kernel, by decide +kernel⟩
abbrev s_Code_neg : Stmt := inClass (topS 18) 9
theorem sc_Code_neg : FnScope ["self", "words"] ["self"] (defScope s_Code_neg) := ⟨rfl, rfl, rfl, by decide +kernel, rfl, by decide +kernel, by decide +kernel⟩
abbrev s_column : Stmt := topS 32
theorem sc_column : FnScope ["code", "place", "start", "word"] ["code", "place"] (defScope s_column) := ⟨rfl, rfl, rfl, by decide +kernel, rfl, by decide +kernel, by decide +kernel⟩
abbrev s_fitting_order : Stmt := topS 33
theorem sc_fitting_order : FnScope ["one", "other", "order", "place", "to", "free"] ["one", "other"] (defScope s_fitting_order) := ⟨rfl, rfl, rfl, by decide +kernel, rfl, by decide +kernel, by decide +kernel⟩
abbrev s_fitting_places : Stmt := topS 34
theorem sc_fitting_places : FnScope ["one", "other", "order", "start", "goal", "place", "to"] ["one", "other", "order"] (defScope s_fitting_places) := ⟨rfl, rfl, rfl, by decide +kernel, rfl, by decide +kernel, by decide +kernel⟩
abbrev s_alike : Stmt := topS 35
theorem sc_alike : FnScope ["one", "other", "begin", "back", "way", "goal", "order"] ["one", "other"] (defScope s_alike) := ⟨rfl, rfl, rfl, by decide +kernel, rfl, by decide +kernel, by decide +kernel⟩
abbrev s_window_of : Stmt := topS 39
theorem sc_window_of : FnScope ["code", "value", "span"] ["code", "value", "span"] (defScope s_window_of) := ⟨rfl, rfl, rfl, by decide +kernel, rfl, by decide +kernel, by decide +kernel⟩
abbrev s_mixtures : Stmt := topS 40
theorem sc_mixtures : FnScope ["words", "found", "bits", "start", "bit"] ["words"] (defScope s_mixtures) := ⟨rfl, rfl, rfl, by decide +kernel, rfl, by decide +kernel, by decide +kernel⟩
abbrev s_seen : Stmt := topS 41
theorem sc_seen : FnScope ["code", "value", "span"] ["code", "value", "span"] (defScope s_seen) := ⟨rfl, rfl, rfl, by decide +kernel, rfl, by decide +kernel, by decide +kernel⟩
abbrev s_mixes : Stmt := topS 42
theorem sc_mixes : FnScope ["code", "value"] ["code", "value"] (defScope s_mixes) := ⟨rfl, rfl, rfl, by decide +kernel, rfl, by decide +kernel, by decide +kernel⟩
abbrev s_changes : Stmt := topS 43
theorem sc_changes : FnScope ["code", "value", "old", "new", "place"] ["code", "value"] (defScope s_changes) := ⟨rfl, rfl, rfl, by decide +kernel, rfl, by decide +kernel, by decide +kernel⟩
abbrev s_is_single : Stmt := topS 44
theorem sc_is_single : FnScope ["code", "value"] ["code"] (defScope s_is_single) := ⟨rfl, rfl, rfl, by decide +kernel, rfl, by decide +kernel, by decide +kernel⟩
abbrev s_check_span : Stmt := topS 14
theorem sc_check_span : FnScope ["span", "high"] ["span", "high"] (defScope s_check_span) := ⟨rfl, rfl, rfl, by decide +kernel, rfl, by decide +kernel, by decide +kernel⟩
abbrev s_readings : Stmt := topS 45
theorem sc_readings : FnScope ["code", "value", "span"] ["code", "value", "span"] (defScope s_readings) := ⟨rfl, rfl, rfl, by decide +kernel, rfl, by decide +kernel, by decide +kernel⟩
abbrev s_numbers_of : Stmt := topS 46
theorem sc_numbers_of : FnScope ["code", "numbers", "word", "number", "bit"] ["code"] (defScope s_numbers_of) := ⟨rfl, rfl, rfl, by decide +kernel, rfl, by decide +kernel, by decide +kernel⟩
abbrev s_gaps_from : Stmt := topS 49
theorem sc_gaps_from : FnScope ["values", "span", "ahead"] ["values", "span"] (defScope s_gaps_from) := ⟨rfl, rfl, rfl, by decide +kernel, rfl, by decide +kernel, by decide +kernel⟩
abbrev s_fixed_and_free : Stmt := topS 47
theorem sc_fixed_and_free : FnScope ["numbers", "value", "span", "both", "either", "step", "number"] ["numbers", "value", "span"] (defScope s_fixed_and_free) := ⟨rfl, rfl, rfl, by decide +kernel, rfl, by decide +kernel, by decide +kernel⟩
abbrev s_seen_values : Stmt := topS 48
theorem sc_seen_values : FnScope ["numbers", "value", "span", "fixed", "free", "either", "at", "number"] ["numbers", "value", "span"] (defScope s_seen_values) := ⟨rfl, rfl, rfl, by decide +kernel, rfl, by decide +kernel, by decide +kernel⟩
abbrev s_all_off : Stmt := topS 50
theorem sc_all_off : FnScope ["code", "span", "numbers", "gaps", "value", "at"] ["code", "span"] (defScope s_all_off) := ⟨rfl, rfl, rfl, by decide +kernel, rfl, by decide +kernel, by decide +kernel⟩
abbrev s_most_off : Stmt := topS 51
theorem sc_most_off : FnScope ["code", "span", "by", "_"] ["code", "span"] (defScope s_most_off) := ⟨rfl, rfl, rfl, by decide +kernel, rfl, by decide +kernel, by decide +kernel⟩
abbrev s_off : Stmt := topS 52
theorem sc_off : FnScope ["code", "span"] ["code", "span"] (defScope s_off) := ⟨rfl, rfl, rfl, by decide +kernel, rfl, by decide +kernel, by decide +kernel⟩
abbrev s_far_off : Stmt := topS 53
theorem sc_far_off : FnScope ["code", "span", "rows", "by", "_", "most", "value", "at"] ["code", "span"] (defScope s_far_off) := ⟨rfl, rfl, rfl, by decide +kernel, rfl, by decide +kernel, by decide +kernel⟩
abbrev s_holes_at : Stmt := topS 57
theorem sc_holes_at : FnScope ["numbers", "value", "span", "_", "free"] ["numbers", "value", "span"] (defScope s_holes_at) := ⟨rfl, rfl, rfl, by decide +kernel, rfl, by decide +kernel, by decide +kernel⟩
abbrev s_holes : Stmt := topS 58
theorem sc_holes : FnScope ["code", "span", "numbers", "value"] ["code", "span"] (defScope s_holes) := ⟨rfl, rfl, rfl, by decide +kernel, rfl, by decide +kernel, by decide +kernel⟩
abbrev s_Code_contains : Stmt := inClass (topS 18) 7
theorem sc_Code_contains : FnScope ["self", "x"] ["self", "x"] (defScope s_Code_contains) := ⟨rfl, rfl, rfl, by decide +kernel, rfl, by decide +kernel, by decide +kernel⟩
abbrev s_off_by : Stmt := topS 54
theorem sc_off_by : FnScope ["code", "span", "value", "at", "gaps"] ["code", "span", "value", "at"] (defScope s_off_by) := ⟨rfl, rfl, rfl, by decide +kernel, rfl, by decide +kernel, by decide +kernel⟩
abbrev s_shows_off : Stmt := topS 55
theorem sc_shows_off : FnScope ["code", "span", "thing", "value", "word", "by"] ["code", "span", "thing"] (defScope s_shows_off) := ⟨rfl, rfl, rfl, by decide +kernel, rfl, by decide +kernel, by decide +kernel⟩
abbrev s_tolerance : Stmt := topS 56
theorem sc_tolerance : FnScope ["code", "span"] ["code"] (defScope s_tolerance) := ⟨rfl, rfl, rfl, by decide +kernel, rfl, by decide +kernel, by decide +kernel⟩
abbrev s_law_same : Stmt := topS 63
theorem sc_law_same : FnScope ["_law_found", "_law_due"] ["_law_found", "_law_due"] (defScope s_law_same) := ⟨rfl, rfl, rfl, by decide +kernel, rfl, by decide +kernel, by decide +kernel⟩
abbrev s_law_right : Stmt := topS 65
theorem sc_law_right : FnScope ["_law_at", "_law_far", "_law_ways", "_law_spots", "_law_made", "_law_second", "_law_told", "_law_due"] ["_law_at", "_law_far", "_law_ways", "_law_spots"] (defScope s_law_right) := ⟨rfl, rfl, rfl, by decide +kernel, rfl, by decide +kernel, by decide +kernel⟩
abbrev s_law : Stmt := topS 66
theorem sc_law : FnScope ["_law_script", "_law_k", "_law_pen_here", "_law_turn", "_law_ways", "_law_spots"] ["_law_script"] (defScope s_law) := ⟨rfl, rfl, rfl, by decide +kernel, rfl, by decide +kernel, by decide +kernel⟩
structure Base (K : PySem.W.Frag) (mg : Str → Option Value) (T : Tb) (ad : Nat → Addr) : Prop where
  F_law_cell_at : ∃ fd, Fun K "_law_cell_at" "_law_cell_at" s_law_cell_at (ad 54) fd
  g_law_cell_at : mg "_law_cell_at" = some (.ref (ad 54))
  F_law_pen : ∃ fd, Fun K "_law_pen" "_law_pen" s_law_pen (ad 55) fd
  g_law_pen : mg "_law_pen" = some (.ref (ad 55))
  F_law_draw : ∃ fd, Fun K "_law_draw" "_law_draw" s_law_draw (ad 56) fd
  g_law_draw : mg "_law_draw" = some (.ref (ad 56))
  F_law_pick : ∃ fd, Fun K "_law_pick" "_law_pick" s_law_pick (ad 58) fd
  g_law_pick : mg "_law_pick" = some (.ref (ad 58))
  F_is_between : ∃ fd, Fun K "is_between" "is_between" s_is_between (ad 1) fd
  g_is_between : mg "is_between" = some (.ref (ad 1))
  F_are_between : ∃ fd, Fun K "are_between" "are_between" s_are_between (ad 2) fd
  g_are_between : mg "are_between" = some (.ref (ad 2))
  F_is_word : ∃ fd, Fun K "is_word" "is_word" s_is_word (ad 17) fd
  g_is_word : mg "is_word" = some (.ref (ad 17))
  F_are_words : ∃ fd, Fun K "are_words" "are_words" s_are_words (ad 18) fd
  g_are_words : mg "are_words" = some (.ref (ad 18))
  F_Code_init : ∃ fd, Fun K "__init__" "Code.__init__" s_Code_init (ad 4) fd
  m_Code_init : Mk K (T.cls 0) (ad 4) ∧ mg "Code" = some (.ref (T.cls 0))
  F_Code_words : ∃ fd, Fun K "words" "Code.words" s_Code_words (ad 5) fd
  p_Code_words : ∃ p, PropOf K (T.cls 0) "words" p (ad 5)
  F_check_value : ∃ fd, Fun K "check_value" "check_value" s_check_value (ad 20) fd
  g_check_value : mg "check_value" = some (.ref (ad 20))
  F_Code_call : ∃ fd, Fun K "__call__" "Code.__call__" s_Code_call (ad 8) fd
  s_Code_call : PySem.W.findIn K (.ref (T.cls 0)) "__call__" = some (some (.ref (ad 8))) ∧ PySem.W.isFn K (.ref (ad 8)) = true ∧ PySem.W.fnIn K (ad 8) = true
  F_Code_bits : ∃ fd, Fun K "bits" "Code.bits" s_Code_bits (ad 6) fd
  p_Code_bits : ∃ p, PropOf K (T.cls 0) "bits" p (ad 6)
  F_Code_getitem : ∃ fd, Fun K "__getitem__" "Code.__getitem__" s_Code_getitem (ad 9) fd
  s_Code_getitem : PySem.W.findIn K (.ref (T.cls 0)) "__getitem__" = some (some (.ref (ad 9))) ∧ PySem.W.isFn K (.ref (ad 9)) = true ∧ PySem.W.fnIn K (ad 9) = true
  F_spelled : ∃ fd, Fun K "spelled" "spelled" s_spelled (ad 21) fd
  g_spelled : mg "spelled" = some (.ref (ad 21))
  F_Code_text : ∃ fd, Fun K "text" "Code.text" s_Code_text (ad 15) fd
  h_Code_text : Meth K (T.cls 0) "text" (ad 15)
  F_read_words : ∃ fd, Fun K "read_words" "read_words" s_read_words (ad 22) fd
  g_read_words : mg "read_words" = some (.ref (ad 22))
  F_Code_read : ∃ fd, Fun K "read" "Code.read" s_Code_read (ad 16) fd
  c_Code_read : (∃ mc p, ClX.CRead K (T.cls 0) mc ∧ ClX.CMet K (T.cls 0) mc "read" p (ad 16)) ∧ mg "Code" = some (.ref (T.cls 0)) ∧ T.fns 1000 = T.cls 0
  F_check_code : ∃ fd, Fun K "check_code" "check_code" s_check_code (ad 19) fd
  g_check_code : mg "check_code" = some (.ref (ad 19))
  F_turned : ∃ fd, Fun K "turned" "turned" s_turned (ad 23) fd
  g_turned : mg "turned" = some (.ref (ad 23))
  F_is_whole : ∃ fd, Fun K "is_whole" "is_whole" s_is_whole (ad 0) fd
  g_is_whole : mg "is_whole" = some (.ref (ad 0))
  F_is_order : ∃ fd, Fun K "is_order" "is_order" s_is_order (ad 24) fd
  g_is_order : mg "is_order" = some (.ref (ad 24))
  F_moved : ∃ fd, Fun K "moved" "moved" s_moved (ad 25) fd
  g_moved : mg "moved" = some (.ref (ad 25))
  F_renamed : ∃ fd, Fun K "renamed" "renamed" s_renamed (ad 26) fd
  g_renamed : mg "renamed" = some (.ref (ad 26))
  F_are_places : ∃ fd, Fun K "are_places" "are_places" s_are_places (ad 27) fd
  g_are_places : mg "are_places" = some (.ref (ad 27))
  F_exchanged : ∃ fd, Fun K "exchanged" "exchanged" s_exchanged (ad 28) fd
  g_exchanged : mg "exchanged" = some (.ref (ad 28))
  F_flipped : ∃ fd, Fun K "flipped" "flipped" s_flipped (ad 29) fd
  g_flipped : mg "flipped" = some (.ref (ad 29))
  F_Code_len : ∃ fd, Fun K "__len__" "Code.__len__" s_Code_len (ad 7) fd
  s_Code_len : PySem.W.findIn K (.ref (T.cls 0)) "__len__" = some (some (.ref (ad 7))) ∧ PySem.W.isFn K (.ref (ad 7)) = true ∧ PySem.W.fnIn K (ad 7) = true
  F_Code_neg : ∃ fd, Fun K "__neg__" "Code.__neg__" s_Code_neg (ad 13) fd
  s_Code_neg : PySem.W.findIn K (.ref (T.cls 0)) "__neg__" = some (some (.ref (ad 13))) ∧ PySem.W.isFn K (.ref (ad 13)) = true ∧ PySem.W.fnIn K (ad 13) = true
  F_column : ∃ fd, Fun K "column" "column" s_column (ad 30) fd
  g_column : mg "column" = some (.ref (ad 30))
  F_fitting_order : ∃ fd, Fun K "fitting_order" "fitting_order" s_fitting_order (ad 31) fd
  g_fitting_order : mg "fitting_order" = some (.ref (ad 31))
  F_fitting_places : ∃ fd, Fun K "fitting_places" "fitting_places" s_fitting_places (ad 32) fd
  g_fitting_places : mg "fitting_places" = some (.ref (ad 32))
  F_alike : ∃ fd, Fun K "alike" "alike" s_alike (ad 33) fd
  g_alike : mg "alike" = some (.ref (ad 33))
  F_window_of : ∃ fd, Fun K "window_of" "window_of" s_window_of (ad 34) fd
  g_window_of : mg "window_of" = some (.ref (ad 34))
  F_mixtures : ∃ fd, Fun K "mixtures" "mixtures" s_mixtures (ad 35) fd
  g_mixtures : mg "mixtures" = some (.ref (ad 35))
  F_seen : ∃ fd, Fun K "seen" "seen" s_seen (ad 36) fd
  g_seen : mg "seen" = some (.ref (ad 36))
  F_mixes : ∃ fd, Fun K "mixes" "mixes" s_mixes (ad 37) fd
  g_mixes : mg "mixes" = some (.ref (ad 37))
  F_changes : ∃ fd, Fun K "changes" "changes" s_changes (ad 38) fd
  g_changes : mg "changes" = some (.ref (ad 38))
  F_is_single : ∃ fd, Fun K "is_single" "is_single" s_is_single (ad 39) fd
  g_is_single : mg "is_single" = some (.ref (ad 39))
  F_check_span : ∃ fd, Fun K "check_span" "check_span" s_check_span (ad 3) fd
  g_check_span : mg "check_span" = some (.ref (ad 3))
  F_readings : ∃ fd, Fun K "readings" "readings" s_readings (ad 40) fd
  g_readings : mg "readings" = some (.ref (ad 40))
  F_numbers_of : ∃ fd, Fun K "numbers_of" "numbers_of" s_numbers_of (ad 41) fd
  g_numbers_of : mg "numbers_of" = some (.ref (ad 41))
  F_gaps_from : ∃ fd, Fun K "gaps_from" "gaps_from" s_gaps_from (ad 44) fd
  g_gaps_from : mg "gaps_from" = some (.ref (ad 44))
  F_fixed_and_free : ∃ fd, Fun K "fixed_and_free" "fixed_and_free" s_fixed_and_free (ad 42) fd
  g_fixed_and_free : mg "fixed_and_free" = some (.ref (ad 42))
  F_seen_values : ∃ fd, Fun K "seen_values" "seen_values" s_seen_values (ad 43) fd
  g_seen_values : mg "seen_values" = some (.ref (ad 43))
  F_all_off : ∃ fd, Fun K "all_off" "all_off" s_all_off (ad 45) fd
  g_all_off : mg "all_off" = some (.ref (ad 45))
  F_most_off : ∃ fd, Fun K "most_off" "most_off" s_most_off (ad 46) fd
  g_most_off : mg "most_off" = some (.ref (ad 46))
  F_off : ∃ fd, Fun K "off" "off" s_off (ad 47) fd
  g_off : mg "off" = some (.ref (ad 47))
  F_far_off : ∃ fd, Fun K "far_off" "far_off" s_far_off (ad 48) fd
  g_far_off : mg "far_off" = some (.ref (ad 48))
  F_holes_at : ∃ fd, Fun K "holes_at" "holes_at" s_holes_at (ad 52) fd
  g_holes_at : mg "holes_at" = some (.ref (ad 52))
  F_holes : ∃ fd, Fun K "holes" "holes" s_holes (ad 53) fd
  g_holes : mg "holes" = some (.ref (ad 53))
  F_Code_contains : ∃ fd, Fun K "__contains__" "Code.__contains__" s_Code_contains (ad 11) fd
  s_Code_contains : PySem.W.findIn K (.ref (T.cls 0)) "__contains__" = some (some (.ref (ad 11))) ∧ PySem.W.isFn K (.ref (ad 11)) = true ∧ PySem.W.fnIn K (ad 11) = true
  F_off_by : ∃ fd, Fun K "off_by" "off_by" s_off_by (ad 49) fd
  g_off_by : mg "off_by" = some (.ref (ad 49))
  F_shows_off : ∃ fd, Fun K "shows_off" "shows_off" s_shows_off (ad 50) fd
  g_shows_off : mg "shows_off" = some (.ref (ad 50))
  F_tolerance : ∃ fd, Fun K "tolerance" "tolerance" s_tolerance (ad 51) fd
  g_tolerance : mg "tolerance" = some (.ref (ad 51))
  F_law_same : ∃ fd, Fun K "_law_same" "_law_same" s_law_same (ad 57) fd
  g_law_same : mg "_law_same" = some (.ref (ad 57))
  F_law_right : ∃ fd, Fun K "_law_right" "_law_right" s_law_right (ad 59) fd
  g_law_right : mg "_law_right" = some (.ref (ad 59))
  F_law : ∃ fd, Fun K "law" "law" s_law (ad 60) fd
  g_law : mg "law" = some (.ref (ad 60))
  n_all : mg "all" = none
  n_bool : mg "bool" = none
  n_enumerate : mg "enumerate" = none
  n_int : mg "int" = none
  n_isinstance : mg "isinstance" = none
  n_len : mg "len" = none
  n_list : mg "list" = none
  n_max : mg "max" = none
  n_min : mg "min" = none
  n_range : mg "range" = none
  n_repr : mg "repr" = none
  n_set : mg "set" = none
  n_sorted : mg "sorted" = none
  n_str : mg "str" = none
  n_sum : mg "sum" = none
  n_tuple : mg "tuple" = none
  n_zip : mg "zip" = none
  k_MOST_BITS : ∃ t, mg "MOST_BITS" = some (.int 5 t)
  k_MOST_SPAN : ∃ t, mg "MOST_SPAN" = some (.int 4 t)
  k_MOST_WORDS : ∃ t, mg "MOST_WORDS" = some (.int 16 t)
  t_MANY : ∃ a, mg "MANY" = some (.ref a) ∧ ∃ (o : Obj) (its : Array Value) (n : Nat), K.lookup a = some o ∧ o.cls = .type "tuple" ∧ o.data = .seq its n ∧ its.size ≤ sizeLine ∧ Vals (([1, 2, 2, 4, 2, 4, 4, 8, 2, 4, 4, 8, 4, 8, 8, 16, 2, 4, 4, 8, 4, 8, 8, 16, 4, 8, 8, 16, 8, 16, 16, 32] : List Int).map V.int) its.toList
  c_Code : ClsF T K 0
  nm_Code : T.nms 0 = (["_words", "_numbers", "windows"] : List Str)
  i_Code : IsF T K 0
  mg_Code : mg "Code" = some (.ref (T.cls 0))
  e_NoCode : ExcF T K mg 2 "NoCode"
  e_NoOrder : ExcF T K mg 5 "NoOrder"
  e_NoPlaces : ExcF T K mg 6 "NoPlaces"
  e_NoSpan : ExcF T K mg 8 "NoSpan"
  e_NoText : ExcF T K mg 7 "NoText"
  e_NoValue : ExcF T K mg 3 "NoValue"
  e_NoWord : ExcF T K mg 4 "NoWord"
  e_NoWords : ExcF T K mg 1 "NoWords"
  memo : T.memo = fun _ => memoV
section
variable {P : Program} {w : World} {K : PySem.W.Frag} {mg : Str → Option Value} {base : Heap} {T : Tb} {ad : Nat → Addr} {k : Nat}
theorem r_law_cell_at (B : Base K mg T ad) : EV.FnR P w K mg base (L2.CX P w) 1 (ad 54) (spF T K R_law_cell_at) := by
  obtain ⟨fd, Fu⟩ := B.F_law_cell_at
  exact fn_frame (fn_sim (k := 0) (ps := ["_law_script", "_law_k"]) (N := ["_law_script", "_law_k"]) Fu sc_law_cell_at (Fu.binds fun _ _ _ _ _ _ us hl => match us, hl with | [_, _], _ => rfl) fun cdv A outer s H E hr hp tk =>
    (sims_cons (sim_ifS (simT_lt (sim_var 1) (sim_len B.n_len (sim_cons (sim_var 0) sim_nil))) (sims_cons (sim_ret (sim_idx (sim_var 0) (sim_var 1)))
    sims_nil) sims_nil)
    (sims_cons (sim_ret sim_int)
    sims_nil)))
theorem e_law_cell_at (B : Base K mg T ad) (h : 1 ≤ k) : ∃ a, EV.FnR P w K mg base (L2.CX P w) k a (spF T K R_law_cell_at) ∧ PySem.W.keepIn K (.ref a) = true ∧ mg "_law_cell_at" = some (.ref a) := ⟨ad 54, (r_law_cell_at B).mono h, B.F_law_cell_at.elim fun _ F => F.kp, B.g_law_cell_at⟩
theorem r_law_pen (B : Base K mg T ad) : EV.FnR P w K mg base (L2.CX P w) 1 (ad 55) (spF T K R_law_pen) := by
  obtain ⟨fd, Fu⟩ := B.F_law_pen
  exact fn_sim (k := 0) (ps := ["_law_cell"]) (N := ["_law_cell"]) Fu sc_law_pen (Fu.binds fun _ _ _ _ _ _ us hl => match us, hl with | [_], _ => rfl) fun cdv A outer s H E hr hp tk =>
    (sims_cons (sim_ret (sim_lstT (sim_cons (sim_max2 rfl B.n_max (sim_cons sim_int (sim_cons (sim_sub (sim_var 0) (sim_pow sim_int sim_int)) sim_nil))) (sim_cons (sim_add (sim_mod (sim_var 0) sim_int) sim_int) (sim_cons sim_int sim_nil)))))
    sims_nil)
theorem e_law_pen (B : Base K mg T ad) (h : 1 ≤ k) : ∃ a, EV.FnR P w K mg base (L2.CX P w) k a (spF T K R_law_pen) ∧ PySem.W.keepIn K (.ref a) = true ∧ mg "_law_pen" = some (.ref a) := ⟨ad 55, (r_law_pen B).mono h, B.F_law_pen.elim fun _ F => F.kp, B.g_law_pen⟩
theorem r_law_draw (B : Base K mg T ad) : EV.FnR P w K mg base (L2.CX P w) 1 (ad 56) (spF T K R_law_draw) := by
  obtain ⟨fd, Fu⟩ := B.F_law_draw
  exact fn_frame (fn_sim (k := 0) (ps := ["_law_pen_here", "_law_many"]) (N := ["_law_pen_here", "_law_many", "_law_found", "_law_mixed"]) Fu sc_law_draw (Fu.binds fun _ _ _ _ _ _ us hl => match us, hl with | [_, _], _ => rfl) fun cdv A outer s H E hr hp tk =>
    (sims_cons (sim_ifS (simT_gt (sim_idx (sim_var 0) sim_int) sim_int) (sims_cons (sim_set 2 sc_law_draw.nd (sim_mod (sim_idx (sim_var 0) sim_int) (sim_var 1)))
    (sims_cons (sim_setSub (sim_div (sim_idx (sim_var 0) sim_int) (sim_var 1)) (sim_var 0) sim_int)
    (sims_cons (sim_ret (sim_var 2))
    sims_nil))) sims_nil)
    (sims_cons (sim_setSub (sim_add (sim_idx (sim_var 0) sim_int) sim_int) (sim_var 0) sim_int)
    (sims_cons (sim_setSub (sim_mod (sim_add (sim_add (sim_mul (sim_idx (sim_var 0) sim_int) sim_int) (sim_mul sim_int (sim_idx (sim_var 0) sim_int))) sim_int) sim_int) (sim_var 0) sim_int)
    (sims_cons (sim_set 3 sc_law_draw.nd (sim_mod (sim_add (sim_add (sim_mul (sim_idx (sim_var 0) sim_int) (sim_idx (sim_var 0) sim_int)) (sim_mul sim_int (sim_idx (sim_var 0) sim_int))) sim_int) sim_int))
    (sims_cons (sim_set 3 sc_law_draw.nd (sim_mod (sim_add (sim_mul (sim_var 3) (sim_var 3)) (sim_mul sim_int (sim_var 3))) sim_int))
    (sims_cons (sim_ret (sim_mod (sim_div (sim_var 3) sim_int) (sim_var 1)))
    sims_nil)))))))
theorem e_law_draw (B : Base K mg T ad) (h : 1 ≤ k) : ∃ a, EV.FnR P w K mg base (L2.CX P w) k a (spF T K R_law_draw) ∧ PySem.W.keepIn K (.ref a) = true ∧ mg "_law_draw" = some (.ref a) := ⟨ad 56, (r_law_draw B).mono h, B.F_law_draw.elim fun _ F => F.kp, B.g_law_draw⟩
theorem r_law_pick (B : Base K mg T ad) : EV.FnR P w K mg base (L2.CX P w) 2 (ad 58) (spF T K R_law_pick) := by
  obtain ⟨fd, Fu⟩ := B.F_law_pick
  exact fn_frame (fn_sim (k := 1) (ps := ["_law_pen_here", "_law_some"]) (N := ["_law_pen_here", "_law_some"]) Fu sc_law_pick (Fu.binds fun _ _ _ _ _ _ us hl => match us, hl with | [_, _], _ => rfl) fun cdv A outer s H E hr hp tk =>
    (sims_cons (sim_ret (sim_idx (sim_var 1) (sim_call ⟨e_law_draw B (by omega)⟩ tk hr rfl (sim_cons (sim_var 0) (sim_cons (sim_len B.n_len (sim_cons (sim_var 1) sim_nil)) sim_nil)))))
    sims_nil))
theorem e_law_pick (B : Base K mg T ad) (h : 2 ≤ k) : ∃ a, EV.FnR P w K mg base (L2.CX P w) k a (spF T K R_law_pick) ∧ PySem.W.keepIn K (.ref a) = true ∧ mg "_law_pick" = some (.ref a) := ⟨ad 58, (r_law_pick B).mono h, B.F_law_pick.elim fun _ F => F.kp, B.g_law_pick⟩
theorem r_is_between (B : Base K mg T ad) : EV.FnR P w K mg base (L2.CX P w) 1 (ad 1) (spF T K R_is_between) := by
  obtain ⟨fd, Fu⟩ := B.F_is_between
  exact fn_frame (fn_sim (k := 0) (ps := ["thing", "low", "high"]) (N := ["thing", "low", "high"]) Fu sc_is_between (Fu.binds fun _ _ _ _ _ _ us hl => match us, hl with | [_, _, _], _ => rfl) fun cdv A outer s H E hr hp tk =>
    (sims_cons (sim_ret (sim_and (sim_isi B.n_isinstance B.n_int (by first | rfl | decide +kernel) (sim_var 0)) (sim_and (sim_not (sim_isi B.n_isinstance B.n_bool (by first | rfl | decide +kernel) (sim_var 0))) (sim_one (sim_chain_le_le (sim_var 1) (sim_var 0) (sim_var 2))))))
    sims_nil))
theorem e_is_between (B : Base K mg T ad) (h : 1 ≤ k) : ∃ a, EV.FnR P w K mg base (L2.CX P w) k a (spF T K R_is_between) ∧ PySem.W.keepIn K (.ref a) = true ∧ mg "is_between" = some (.ref a) := ⟨ad 1, (r_is_between B).mono h, B.F_is_between.elim fun _ F => F.kp, B.g_is_between⟩
theorem r_are_between (B : Base K mg T ad) : EV.FnR P w K mg base (L2.CX P w) 2 (ad 2) (spF T K R_are_between) := by
  obtain ⟨fd, Fu⟩ := B.F_are_between
  exact fn_frame (fn_sim (k := 1) (ps := ["thing", "many", "low", "high"]) (N := ["thing", "many", "low", "high", "part"]) Fu sc_are_between (Fu.binds fun _ _ _ _ _ _ us hl => match us, hl with | [_, _, _, _], _ => rfl) fun cdv A outer s H E hr hp tk =>
    (sims_cons (sim_ret (sim_and (sim_isi B.n_isinstance B.n_tuple (by first | rfl | decide +kernel) (sim_var 0)) (sim_and (sim_eq hr (sim_len B.n_len (sim_cons (sim_var 0) sim_nil)) (sim_var 1)) (sim_one (sim_all rfl B.n_all (sim_cons (sim_lc [("part", 4)] rfl sc_are_between.nd (sim_iAny (sim_var 0)) (blkOk_by (N := ["thing", "many", "low", "high", "part"]) (sc := defScope s_are_between) (by decide +kernel)) (fun _ _ _ _ _ => (sim_gN 4 sc_are_between.nd)) (fun _ _ _ _ _ => simTs_nil) (fun _ _ _ _ _ => (sim_call ⟨e_is_between B (by omega)⟩ takes0 hr rfl (sim_cons (sim_var 4) (sim_cons (sim_var 2) (sim_cons (sim_var 3) sim_nil)))))) sim_nil))))))
    sims_nil))
theorem e_are_between (B : Base K mg T ad) (h : 2 ≤ k) : ∃ a, EV.FnR P w K mg base (L2.CX P w) k a (spF T K R_are_between) ∧ PySem.W.keepIn K (.ref a) = true ∧ mg "are_between" = some (.ref a) := ⟨ad 2, (r_are_between B).mono h, B.F_are_between.elim fun _ F => F.kp, B.g_are_between⟩
theorem r_is_word (B : Base K mg T ad) : EV.FnR P w K mg base (L2.CX P w) 3 (ad 17) (spF T K R_is_word) := by
  obtain ⟨fd, Fu⟩ := B.F_is_word
  exact fn_frame (fn_sim (k := 2) (ps := ["thing", "bits"]) (N := ["thing", "bits"]) Fu sc_is_word (Fu.binds fun _ _ _ _ _ _ us hl => match us, hl with | [_, _], _ => rfl) fun cdv A outer s H E hr hp tk =>
    (sims_cons (sim_ret (sim_call ⟨e_are_between B (by omega)⟩ tk hr rfl (sim_cons (sim_var 0) (sim_cons (sim_var 1) (sim_cons sim_int (sim_cons sim_int sim_nil))))))
    sims_nil))
theorem e_is_word (B : Base K mg T ad) (h : 3 ≤ k) : ∃ a, EV.FnR P w K mg base (L2.CX P w) k a (spF T K R_is_word) ∧ PySem.W.keepIn K (.ref a) = true ∧ mg "is_word" = some (.ref a) := ⟨ad 17, (r_is_word B).mono h, B.F_is_word.elim fun _ F => F.kp, B.g_is_word⟩
theorem r_are_words (B : Base K mg T ad) : EV.FnR P w K mg base (L2.CX P w) 4 (ad 18) (spF T K R_are_words) := by
  obtain ⟨fd, Fu⟩ := B.F_are_words
  exact fn_frame (fn_sim (k := 3) (ps := ["words"]) (N := ["words", "first", "word"]) Fu sc_are_words (Fu.binds fun _ _ _ _ _ _ us hl => match us, hl with | [_], _ => rfl) fun cdv A outer s H E hr hp tk =>
    (sims_cons (sim_ifS (simT_not (simT_chain_le_le sim_int (sim_len B.n_len (sim_cons (sim_var 0) sim_nil)) (sim_glob B.k_MOST_WORDS))) (sims_cons (sim_ret sim_bl)
    sims_nil) sims_nil)
    (sims_cons (sim_set 1 sc_are_words.nd (sim_idx (sim_var 0) sim_int))
    (sims_cons (sim_ifS (simT_W (simW_or (simT_not (sim_tV (sim_isi B.n_isinstance B.n_tuple (by first | rfl | decide +kernel) (sim_var 1)))) (simW_or1 (simT_not (simT_chain_le_le sim_int (sim_len B.n_len (sim_cons (sim_var 1) sim_nil)) (sim_glob B.k_MOST_BITS)))))) (sims_cons (sim_ret sim_bl)
    sims_nil) sims_nil)
    (sims_cons (sim_ret (sim_and (sim_all rfl B.n_all (sim_cons (sim_lc [("word", 2)] rfl sc_are_words.nd (sim_iAny (sim_var 0)) (blkOk_by (N := ["words", "first", "word"]) (sc := defScope s_are_words) (by decide +kernel)) (fun _ _ _ _ _ => (sim_gN 2 sc_are_words.nd)) (fun _ _ _ _ _ => simTs_nil) (fun _ _ _ _ _ => (sim_call ⟨e_is_word B (by omega)⟩ takes0 hr rfl (sim_cons (sim_var 2) (sim_cons (sim_len B.n_len (sim_cons (sim_var 1) sim_nil)) sim_nil))))) sim_nil)) (sim_one (sim_eq hr (sim_lenSetT hr rfl B.n_len B.n_set (sim_var 0)) (sim_len B.n_len (sim_cons (sim_var 0) sim_nil))))))
    sims_nil)))))
theorem e_are_words (B : Base K mg T ad) (h : 4 ≤ k) : ∃ a, EV.FnR P w K mg base (L2.CX P w) k a (spF T K R_are_words) ∧ PySem.W.keepIn K (.ref a) = true ∧ mg "are_words" = some (.ref a) := ⟨ad 18, (r_are_words B).mono h, B.F_are_words.elim fun _ F => F.kp, B.g_are_words⟩
theorem r_Code_init (B : Base K mg T ad) : EV.FnR P w K mg base (L2.CX P w) 5 (ad 4) (spF T K R_Code_init) := by
  obtain ⟨fd, Fu⟩ := B.F_Code_init
  exact fn_frame (fn_simStar (k := 4) (ps := ["self"]) (pv := "words") (N := ["self", "words", "value", "word"]) Fu sc_Code_init (fun _ _ _ _ _ _ us rest hl => match us, rest, hl with | [_], [], _ => rfl | [_], _ :: _, _ => rfl) fun cdv A outer s H E hr hp tk =>
    (sims_cons (sim_ifS (simT_not (sim_tV (sim_call ⟨e_are_words B (by omega)⟩ tk hr rfl (sim_cons (sim_var 1) sim_nil)))) (sims_cons (sim_raiseA 1 B.e_NoWords rfl tk (sim_cons sim_str sim_nil))
    sims_nil) sims_nil)
    (sims_cons (sim_setFld 0 0 B.c_Code (by rw [B.nm_Code]; rfl) (sim_var 1) (sim_var 0))
    (sims_cons (sim_setFld 0 1 B.c_Code (by rw [B.nm_Code]; rfl) (sim_dcT [("value", 2), ("word", 3)] hr rfl sc_Code_init.nd (sim_iEnumA B.n_enumerate (sim_cons (sim_var 1) sim_nil)) (blkOk_by (N := ["self", "words", "value", "word"]) (sc := defScope s_Code_init) (by decide +kernel)) (fun _ _ _ _ _ => (sim_gU rfl (sim_gsCons (sim_gN 2 sc_Code_init.nd) (sim_gsCons (sim_gN 3 sc_Code_init.nd) sim_gsNil)))) (fun _ _ _ _ _ => simTs_nil) (fun _ _ _ _ _ => (sim_var 3)) (fun _ _ _ _ _ => (sim_var 2))) (sim_var 0))
    (sims_cons (sim_setFldM 0 2 B.c_Code (by rw [B.nm_Code]; rfl) (sim_var 0))
    sims_nil)))))
theorem m_Code_init (B : Base K mg T ad) (h : 5 + 1 ≤ k) : ∃ j a, j + 1 ≤ k ∧ Mk K (T.cls 0) a ∧ EV.FnR P w K mg base (L2.CX P w) j a (spF T K R_Code_init) ∧ mg "Code" = some (.ref (T.cls 0)) := ⟨5, ad 4, h, B.m_Code_init.1, (r_Code_init B), B.m_Code_init.2⟩
theorem r_Code_words (B : Base K mg T ad) : EV.FnR P w K mg base (L2.CX P w) 1 (ad 5) (spF T K R_Code_words) := by
  obtain ⟨fd, Fu⟩ := B.F_Code_words
  exact fn_frame (fn_sim (k := 0) (ps := ["self"]) (N := ["self"]) Fu sc_Code_words (Fu.binds fun _ _ _ _ _ _ us hl => match us, hl with | [_], _ => rfl) fun cdv A outer s H E hr hp tk =>
    (sims_cons (sim_ret (sim_fld 0 0 B.c_Code (by rw [B.nm_Code]; rfl) (sim_var 0)))
    sims_nil))
theorem p_Code_words (B : Base K mg T ad) (h : 1 + 1 ≤ k) : ∃ j p a, j + 1 ≤ k ∧ PropOf K (T.cls 0) "words" p a ∧ EV.FnR P w K mg base (L2.CX P w) j a (spF T K R_Code_words) := B.p_Code_words.elim fun p z => ⟨1, p, ad 5, h, z, (r_Code_words B)⟩
theorem r_check_value (B : Base K mg T ad) : EV.FnR P w K mg base (L2.CX P w) 3 (ad 20) (spF T K R_check_value) := by
  obtain ⟨fd, Fu⟩ := B.F_check_value
  exact fn_frame (fn_sim (k := 2) (ps := ["code", "value"]) (N := ["code", "value"]) Fu sc_check_value (Fu.binds fun _ _ _ _ _ _ us hl => match us, hl with | [_, _], _ => rfl) fun cdv A outer s H E hr hp tk =>
    (sims_cons (sim_ifS (simT_not (sim_tV (sim_call ⟨e_is_between B (by omega)⟩ tk hr rfl (sim_cons (sim_var 1) (sim_cons sim_int (sim_cons (sim_sub (sim_len B.n_len (sim_cons (sim_prop 0 ⟨p_Code_words B (by omega)⟩ B.c_Code hr (sim_var 0)) sim_nil)) sim_int) sim_nil)))))) (sims_cons (sim_raiseA 3 B.e_NoValue rfl tk (sim_cons sim_str sim_nil))
    sims_nil) sims_nil)
    sims_nil))
theorem e_check_value (B : Base K mg T ad) (h : 3 ≤ k) : ∃ a, EV.FnR P w K mg base (L2.CX P w) k a (spF T K R_check_value) ∧ PySem.W.keepIn K (.ref a) = true ∧ mg "check_value" = some (.ref a) := ⟨ad 20, (r_check_value B).mono h, B.F_check_value.elim fun _ F => F.kp, B.g_check_value⟩
theorem bo_Code_call (B : Base K mg T ad) : BodyOk P w K mg base T 3 "Code.__call__" s_Code_call (ad 8) ["self", "value"] b_Code_call := fun cdv A outer s H E hr hp tk =>
    (sims_cons (sim_expr (sim_call ⟨e_check_value B (by omega)⟩ tk hr rfl (sim_cons (sim_var 0) (sim_cons (sim_var 1) sim_nil))))
    (sims_cons (sim_ret (sim_idx (sim_fld 0 0 B.c_Code (by rw [B.nm_Code]; rfl) (sim_var 0)) (sim_var 1)))
    sims_nil))
theorem ra_Code_call (B : Base K mg T ad) : ∃ fd, Fun K "__call__" "Code.__call__" s_Code_call (ad 8) fd ∧ EV.FnRA P w K mg base (L2.CX P w) 4 (ad 8) fd ["self", "value"] (spF T K R_Code_call) := by
  obtain ⟨fd, Fu⟩ := B.F_Code_call
  exact ⟨fd, Fu, fn_frameA (fn_simA (k := 3) (ps := ["self", "value"]) (N := ["self", "value"]) Fu sc_Code_call (bo_Code_call B))⟩
theorem r_Code_call (B : Base K mg T ad) : EV.FnR P w K mg base (L2.CX P w) 4 (ad 8) (spF T K R_Code_call) := by
  obtain ⟨fd, Fu⟩ := B.F_Code_call
  exact fn_frame (fn_sim (k := 3) (ps := ["self", "value"]) (N := ["self", "value"]) Fu sc_Code_call (Fu.binds fun _ _ _ _ _ _ us hl => match us, hl with | [_, _], _ => rfl) (bo_Code_call B))
theorem O_Code_call_2063c160 (B : Base K mg T ad) (h : 4 ≤ k) : ∃ a fd ps, StX.CallO K (T.cls 0) a ∧ EV.FnRA P w K mg base (L2.CX P w) k a fd ps (spF T K R_Code_call) ∧ KwB1 fd ps ["value"] [0] := by
  obtain ⟨fd, Fu, Fa⟩ := ra_Code_call B
  exact ⟨ad 8, fd, _, ⟨B.s_Code_call.1, B.s_Code_call.2.1, B.s_Code_call.2.2⟩, Fa.mono h, EV.Fun.kw1 Fu fun _ _ _ _ _ _ _ ws hl => match ws, hl with | [_], _ => ⟨rfl, rfl⟩⟩
theorem o_Code_call (B : Base K mg T ad) (h : 4 ≤ k) : ∃ a, StX.CallO K (T.cls 0) a ∧ EV.FnR P w K mg base (L2.CX P w) k a (spF T K R_Code_call) := ⟨ad 8, ⟨B.s_Code_call.1, B.s_Code_call.2.1, B.s_Code_call.2.2⟩, (r_Code_call B).mono h⟩
theorem r_Code_bits (B : Base K mg T ad) : EV.FnR P w K mg base (L2.CX P w) 1 (ad 6) (spF T K R_Code_bits) := by
  obtain ⟨fd, Fu⟩ := B.F_Code_bits
  exact fn_frame (fn_sim (k := 0) (ps := ["self"]) (N := ["self"]) Fu sc_Code_bits (Fu.binds fun _ _ _ _ _ _ us hl => match us, hl with | [_], _ => rfl) fun cdv A outer s H E hr hp tk =>
    (sims_cons (sim_ret (sim_len B.n_len (sim_cons (sim_idx (sim_fld 0 0 B.c_Code (by rw [B.nm_Code]; rfl) (sim_var 0)) sim_int) sim_nil)))
    sims_nil))
theorem p_Code_bits (B : Base K mg T ad) (h : 1 + 1 ≤ k) : ∃ j p a, j + 1 ≤ k ∧ PropOf K (T.cls 0) "bits" p a ∧ EV.FnR P w K mg base (L2.CX P w) j a (spF T K R_Code_bits) := B.p_Code_bits.elim fun p z => ⟨1, p, ad 6, h, z, (r_Code_bits B)⟩
theorem r_Code_getitem (B : Base K mg T ad) : EV.FnR P w K mg base (L2.CX P w) 4 (ad 9) (spF T K R_Code_getitem) := by
  obtain ⟨fd, Fu⟩ := B.F_Code_getitem
  exact fn_frame (fn_sim (k := 3) (ps := ["self", "at"]) (N := ["self", "at"]) Fu sc_Code_getitem (Fu.binds fun _ _ _ _ _ _ us hl => match us, hl with | [_, _], _ => rfl) fun cdv A outer s H E hr hp tk =>
    (sims_cons (sim_ifS (simT_not (sim_tV (sim_call ⟨e_is_word B (by omega)⟩ tk hr rfl (sim_cons (sim_var 1) (sim_cons (sim_prop 0 ⟨p_Code_bits B (by omega)⟩ B.c_Code hr (sim_var 0)) sim_nil))))) (sims_cons (sim_raiseA 4 B.e_NoWord rfl tk (sim_cons sim_str sim_nil))
    sims_nil) sims_nil)
    (sims_cons (sim_ret (sim_dget2 hr (sim_fld 0 1 B.c_Code (by rw [B.nm_Code]; rfl) (sim_var 0)) (sim_var 1) (sim_neg sim_int) ⟨rfl, rfl, rfl, rfl⟩))
    sims_nil)))
theorem x_Code_getitem (B : Base K mg T ad) (h : 4 + 1 ≤ k) : ∃ j a, j + 1 ≤ k ∧ PySem.W.findIn K (.ref (T.cls 0)) "__getitem__" = some (some (.ref a)) ∧ PySem.W.isFn K (.ref a) = true ∧ PySem.W.fnIn K a = true ∧ EV.FnR P w K mg base (L2.CX P w) j a (spF T K R_Code_getitem) := ⟨4, ad 9, h, B.s_Code_getitem.1, B.s_Code_getitem.2.1, B.s_Code_getitem.2.2, (r_Code_getitem B)⟩
theorem r_spelled (B : Base K mg T ad) : EV.FnR P w K mg base (L2.CX P w) 1 (ad 21) (spF T K R_spelled) := by
  obtain ⟨fd, Fu⟩ := B.F_spelled
  exact fn_frame (fn_sim (k := 0) (ps := ["word"]) (N := ["word", "bit"]) Fu sc_spelled (Fu.binds fun _ _ _ _ _ _ us hl => match us, hl with | [_], _ => rfl) fun cdv A outer s H E hr hp tk =>
    (sims_cons (sim_ret (sim_join sim_str (sim_cons (sim_lc [("bit", 1)] rfl sc_spelled.nd (sim_iAny (sim_var 0)) (blkOk_by (N := ["word", "bit"]) (sc := defScope s_spelled) (by decide +kernel)) (fun _ _ _ _ _ => (sim_gN 1 sc_spelled.nd)) (fun _ _ _ _ _ => simTs_nil) (fun _ _ _ _ _ => (sim_str1 B.n_str (sim_cons (sim_var 1) sim_nil)))) sim_nil)))
    sims_nil))
theorem e_spelled (B : Base K mg T ad) (h : 1 ≤ k) : ∃ a, EV.FnR P w K mg base (L2.CX P w) k a (spF T K R_spelled) ∧ PySem.W.keepIn K (.ref a) = true ∧ mg "spelled" = some (.ref a) := ⟨ad 21, (r_spelled B).mono h, B.F_spelled.elim fun _ F => F.kp, B.g_spelled⟩
theorem r_Code_text (B : Base K mg T ad) : EV.FnR P w K mg base (L2.CX P w) 2 (ad 15) (spF T K R_Code_text) := by
  obtain ⟨fd, Fu⟩ := B.F_Code_text
  exact fn_frame (fn_sim (k := 1) (ps := ["self"]) (N := ["self", "word"]) Fu sc_Code_text (Fu.binds fun _ _ _ _ _ _ us hl => match us, hl with | [_], _ => rfl) fun cdv A outer s H E hr hp tk =>
    (sims_cons (sim_ret (sim_join sim_str (sim_cons (sim_lc [("word", 1)] rfl sc_Code_text.nd (sim_iAny (sim_fld 0 0 B.c_Code (by rw [B.nm_Code]; rfl) (sim_var 0))) (blkOk_by (N := ["self", "word"]) (sc := defScope s_Code_text) (by decide +kernel)) (fun _ _ _ _ _ => (sim_gN 1 sc_Code_text.nd)) (fun _ _ _ _ _ => simTs_nil) (fun _ _ _ _ _ => (sim_add (sim_call ⟨e_spelled B (by omega)⟩ takes0 hr rfl (sim_cons (sim_var 1) sim_nil)) sim_str))) sim_nil)))
    sims_nil))
theorem h_Code_text (B : Base K mg T ad) (h : 2 ≤ k) : ∃ a, Meth K (T.cls 0) "text" a ∧ EV.FnR P w K mg base (L2.CX P w) k a (spF T K R_Code_text) := ⟨ad 15, B.h_Code_text, (r_Code_text B).mono h⟩
theorem r_read_words (B : Base K mg T ad) : EV.FnR P w K mg base (L2.CX P w) 1 (ad 22) (spF T K R_read_words) := by
  obtain ⟨fd, Fu⟩ := B.F_read_words
  exact fn_frame (fn_sim (k := 0) (ps := ["text"]) (N := ["text", "lines", "line", "bit"]) Fu sc_read_words (Fu.binds fun _ _ _ _ _ _ us hl => match us, hl with | [_], _ => rfl) fun cdv A outer s H E hr hp tk =>
    (sims_cons (sim_ifS (simT_W (simW_or (simT_not (sim_tV (sim_isi B.n_isinstance B.n_str (by first | rfl | decide +kernel) (sim_var 0)))) (simW_or1 (simT_not (sim_tV (sim_endsW (sim_var 0) (sim_cons sim_str sim_nil))))))) (sims_cons (sim_ret (sim_tup sim_nil))
    sims_nil) sims_nil)
    (sims_cons (sim_set 1 sc_read_words.nd (sim_split (sim_cut (sim_var 0) sim_oNone (sim_oSome (sim_neg sim_int))) (sim_cons sim_str sim_nil)))
    (sims_cons (sim_ifS (simT_not (sim_tV (sim_all rfl B.n_all (sim_cons (sim_lc2 [("line", 2), ("bit", 3)] [3] rfl sc_read_words.nd (sim_iAny (sim_var 1)) (blkOk_by (N := ["text", "lines", "line", "bit"]) (sc := defScope s_read_words) (by decide +kernel)) (fun _ _ _ _ _ => (sim_gN 2 sc_read_words.nd)) (fun _ _ _ _ _ => simTs_nil) (fun _ _ _ _ _ => (sim_iAny (sim_var 2))) (fun _ _ _ _ _ => (sim_gN 3 sc_read_words.nd)) (fun _ _ _ _ _ => simTs_nil) (fun _ _ _ _ _ => (sim_in hr (sim_var 3) (sim_tup (sim_cons sim_str (sim_cons sim_str sim_nil)))))) sim_nil)))) (sims_cons (sim_ret (sim_tup sim_nil))
    sims_nil) sims_nil)
    (sims_cons (sim_ret (sim_tuple B.n_tuple (sim_cons (sim_lc [("line", 2)] rfl sc_read_words.nd (sim_iAny (sim_var 1)) (blkOk_by (N := ["text", "lines", "line", "bit"]) (sc := defScope s_read_words) (by decide +kernel)) (fun _ _ _ _ _ => (sim_gN 2 sc_read_words.nd)) (fun _ _ _ _ _ => simTs_nil) (fun _ _ _ _ _ => (sim_tuple B.n_tuple (sim_cons (sim_lc [("bit", 3)] rfl sc_read_words.nd (sim_iAny (sim_var 2)) (blkOk_re (blkOk_by (N := ["text", "lines", "line", "bit"]) (by decide +kernel))) (fun _ _ _ _ _ => (sim_gN 3 sc_read_words.nd)) (fun _ _ _ _ _ => simTs_nil) (fun _ _ _ _ _ => (sim_int2 B.n_int (sim_cons (sim_var 3) sim_nil)))) sim_nil)))) sim_nil)))
    sims_nil)))))
theorem e_read_words (B : Base K mg T ad) (h : 1 ≤ k) : ∃ a, EV.FnR P w K mg base (L2.CX P w) k a (spF T K R_read_words) ∧ PySem.W.keepIn K (.ref a) = true ∧ mg "read_words" = some (.ref a) := ⟨ad 22, (r_read_words B).mono h, B.F_read_words.elim fun _ F => F.kp, B.g_read_words⟩
theorem bo_Code_read (B : Base K mg T ad) : BodyOk P w K mg base T 6 "Code.read" s_Code_read (ad 16) ["cls", "text", "words"] b_Code_read := fun cdv A outer s H E hr hp tk =>
    (sims_cons (sim_set 2 sc_Code_read.nd (sim_call ⟨e_read_words B (by omega)⟩ tk hr rfl (sim_cons (sim_var 1) sim_nil)))
    (sims_cons (sim_ifS (simT_not (sim_tV (sim_call ⟨e_are_words B (by omega)⟩ tk hr rfl (sim_cons (sim_var 2) sim_nil)))) (sims_cons (sim_raiseA 7 B.e_NoText rfl tk (sim_cons sim_str sim_nil))
    sims_nil) sims_nil)
    (sims_cons (sim_ret (sim_makeS 0 false ⟨m_Code_init B (by omega)⟩ tk hr rfl (sim_var 2)))
    sims_nil)))
theorem ra_Code_read (B : Base K mg T ad) : ∃ fd, Fun K "read" "Code.read" s_Code_read (ad 16) fd ∧ EV.FnRA P w K mg base (L2.CX P w) 7 (ad 16) fd ["cls", "text"] (spF T K R_Code_read) := by
  obtain ⟨fd, Fu⟩ := B.F_Code_read
  exact ⟨fd, Fu, fn_frameA (fn_simA (k := 6) (ps := ["cls", "text"]) (N := ["cls", "text", "words"]) Fu sc_Code_read (bo_Code_read B))⟩
theorem r_Code_read (B : Base K mg T ad) : EV.FnR P w K mg base (L2.CX P w) 7 (ad 16) (spF T K R_Code_read) := by
  obtain ⟨fd, Fu⟩ := B.F_Code_read
  exact fn_frame (fn_sim (k := 6) (ps := ["cls", "text"]) (N := ["cls", "text", "words"]) Fu sc_Code_read (Fu.binds fun _ _ _ _ _ _ us hl => match us, hl with | [_, _], _ => rfl) (bo_Code_read B))
theorem C_Code_read_1cb251ec (B : Base K mg T ad) (h : 7 ≤ k) : ∃ mc p a fd ps, ClX.CRead K (T.cls 0) mc ∧ ClX.CMet K (T.cls 0) mc "read" p a ∧ EV.FnRA P w K mg base (L2.CX P w) k a fd ps (spF T K R_Code_read) ∧ KwB1 fd ps ["text"] [0] := by
  obtain ⟨mc, p, z1, z2⟩ := B.c_Code_read.1
  obtain ⟨fd, Fu, Fa⟩ := ra_Code_read B
  exact ⟨mc, p, ad 16, fd, _, z1, z2, Fa.mono h, EV.Fun.kw1 Fu fun _ _ _ _ _ _ _ ws hl => match ws, hl with | [_], _ => ⟨rfl, rfl⟩⟩
theorem r_check_code (B : Base K mg T ad) : EV.FnR P w K mg base (L2.CX P w) 1 (ad 19) (spF T K R_check_code) := by
  obtain ⟨fd, Fu⟩ := B.F_check_code
  exact fn_frame (fn_sim (k := 0) (ps := ["code"]) (N := ["code"]) Fu sc_check_code (Fu.binds fun _ _ _ _ _ _ us hl => match us, hl with | [_], _ => rfl) fun cdv A outer s H E hr hp tk =>
    (sims_cons (sim_ifS (simT_not (sim_tV (sim_isO 0 B.i_Code B.c_Code B.mg_Code B.n_isinstance (sim_var 0)))) (sims_cons (sim_raiseA 2 B.e_NoCode rfl tk (sim_cons sim_str sim_nil))
    sims_nil) sims_nil)
    sims_nil))
theorem e_check_code (B : Base K mg T ad) (h : 1 ≤ k) : ∃ a, EV.FnR P w K mg base (L2.CX P w) k a (spF T K R_check_code) ∧ PySem.W.keepIn K (.ref a) = true ∧ mg "check_code" = some (.ref a) := ⟨ad 19, (r_check_code B).mono h, B.F_check_code.elim fun _ F => F.kp, B.g_check_code⟩
theorem bo_turned (B : Base K mg T ad) : BodyOk P w K mg base T 6 "turned" s_turned (ad 23) ["code", "by", "words"] b_turned := fun cdv A outer s H E hr hp tk =>
    (sims_cons (sim_expr (sim_call ⟨e_check_code B (by omega)⟩ tk hr rfl (sim_cons (sim_var 0) sim_nil)))
    (sims_cons (sim_expr (sim_call ⟨e_check_value B (by omega)⟩ tk hr rfl (sim_cons (sim_var 0) (sim_cons (sim_var 1) sim_nil))))
    (sims_cons (sim_set 2 sc_turned.nd (sim_add (sim_cut (sim_prop 0 ⟨p_Code_words B (by omega)⟩ B.c_Code hr (sim_var 0)) (sim_oSome (sim_var 1)) sim_oNone) (sim_cut (sim_prop 0 ⟨p_Code_words B (by omega)⟩ B.c_Code hr (sim_var 0)) sim_oNone (sim_oSome (sim_var 1)))))
    (sims_cons (sim_ret (sim_makeS 0 false ⟨m_Code_init B (by omega)⟩ tk hr rfl (sim_var 2)))
    sims_nil))))
theorem ra_turned (B : Base K mg T ad) : ∃ fd, Fun K "turned" "turned" s_turned (ad 23) fd ∧ EV.FnRA P w K mg base (L2.CX P w) 7 (ad 23) fd ["code", "by"] (spF T K R_turned) := by
  obtain ⟨fd, Fu⟩ := B.F_turned
  exact ⟨fd, Fu, fn_frameA (fn_simA (k := 6) (ps := ["code", "by"]) (N := ["code", "by", "words"]) Fu sc_turned (bo_turned B))⟩
theorem r_turned (B : Base K mg T ad) : EV.FnR P w K mg base (L2.CX P w) 7 (ad 23) (spF T K R_turned) := by
  obtain ⟨fd, Fu⟩ := B.F_turned
  exact fn_frame (fn_sim (k := 6) (ps := ["code", "by"]) (N := ["code", "by", "words"]) Fu sc_turned (Fu.binds fun _ _ _ _ _ _ us hl => match us, hl with | [_, _], _ => rfl) (bo_turned B))
theorem K_turned_c2374418 (B : Base K mg T ad) (h : 7 ≤ k) : ∃ a fd ps, EV.FnRA P w K mg base (L2.CX P w) k a fd ps (spF T K R_turned) ∧ PySem.W.keepIn K (.ref a) = true ∧ mg "turned" = some (.ref a) ∧ KwB fd ps ["by", "code"] [1, 0] := by
  obtain ⟨fd, Fu, Fa⟩ := ra_turned B
  exact ⟨ad 23, fd, _, Fa.mono h, Fu.kp, B.g_turned, EV.Fun.kw Fu fun _ _ _ _ _ _ ws hl => match ws, hl with | [_, _], _ => ⟨rfl, rfl⟩⟩
theorem e_turned (B : Base K mg T ad) (h : 7 ≤ k) : ∃ a, EV.FnR P w K mg base (L2.CX P w) k a (spF T K R_turned) ∧ PySem.W.keepIn K (.ref a) = true ∧ mg "turned" = some (.ref a) := ⟨ad 23, (r_turned B).mono h, B.F_turned.elim fun _ F => F.kp, B.g_turned⟩
theorem r_is_whole (B : Base K mg T ad) : EV.FnR P w K mg base (L2.CX P w) 1 (ad 0) (spF T K R_is_whole) := by
  obtain ⟨fd, Fu⟩ := B.F_is_whole
  exact fn_frame (fn_sim (k := 0) (ps := ["thing"]) (N := ["thing"]) Fu sc_is_whole (Fu.binds fun _ _ _ _ _ _ us hl => match us, hl with | [_], _ => rfl) fun cdv A outer s H E hr hp tk =>
    (sims_cons (sim_ret (sim_and (sim_isi B.n_isinstance B.n_int (by first | rfl | decide +kernel) (sim_var 0)) (sim_one (sim_not (sim_isi B.n_isinstance B.n_bool (by first | rfl | decide +kernel) (sim_var 0))))))
    sims_nil))
theorem e_is_whole (B : Base K mg T ad) (h : 1 ≤ k) : ∃ a, EV.FnR P w K mg base (L2.CX P w) k a (spF T K R_is_whole) ∧ PySem.W.keepIn K (.ref a) = true ∧ mg "is_whole" = some (.ref a) := ⟨ad 0, (r_is_whole B).mono h, B.F_is_whole.elim fun _ F => F.kp, B.g_is_whole⟩
theorem r_is_order (B : Base K mg T ad) : EV.FnR P w K mg base (L2.CX P w) 2 (ad 24) (spF T K R_is_order) := by
  obtain ⟨fd, Fu⟩ := B.F_is_order
  exact fn_frame (fn_sim (k := 1) (ps := ["thing", "bits"]) (N := ["thing", "bits", "place"]) Fu sc_is_order (Fu.binds fun _ _ _ _ _ _ us hl => match us, hl with | [_, _], _ => rfl) fun cdv A outer s H E hr hp tk =>
    (sims_cons (sim_ifS (simT_W (simW_or (simT_not (sim_tV (sim_isi B.n_isinstance B.n_tuple (by first | rfl | decide +kernel) (sim_var 0)))) (simW_or1 (simT_not (sim_tV (sim_all rfl B.n_all (sim_cons (sim_lc [("place", 2)] rfl sc_is_order.nd (sim_iAny (sim_var 0)) (blkOk_by (N := ["thing", "bits", "place"]) (sc := defScope s_is_order) (by decide +kernel)) (fun _ _ _ _ _ => (sim_gN 2 sc_is_order.nd)) (fun _ _ _ _ _ => simTs_nil) (fun _ _ _ _ _ => (sim_call ⟨e_is_whole B (by omega)⟩ takes0 hr rfl (sim_cons (sim_var 2) sim_nil)))) sim_nil))))))) (sims_cons (sim_ret sim_bl)
    sims_nil) sims_nil)
    (sims_cons (sim_ret (sim_eq hr (sim_sortY 64 B.n_sorted (by first | rfl | decide +kernel) (sim_cons (sim_var 0) sim_nil)) (sim_listR1 rfl B.n_list B.n_range (sim_var 1))))
    sims_nil)))
theorem e_is_order (B : Base K mg T ad) (h : 2 ≤ k) : ∃ a, EV.FnR P w K mg base (L2.CX P w) k a (spF T K R_is_order) ∧ PySem.W.keepIn K (.ref a) = true ∧ mg "is_order" = some (.ref a) := ⟨ad 24, (r_is_order B).mono h, B.F_is_order.elim fun _ F => F.kp, B.g_is_order⟩
theorem r_moved (B : Base K mg T ad) : EV.FnR P w K mg base (L2.CX P w) 1 (ad 25) (spF T K R_moved) := by
  obtain ⟨fd, Fu⟩ := B.F_moved
  exact fn_frame (fn_sim (k := 0) (ps := ["word", "order"]) (N := ["word", "order", "bits", "bit", "place"]) Fu sc_moved (Fu.binds fun _ _ _ _ _ _ us hl => match us, hl with | [_, _], _ => rfl) fun cdv A outer s H E hr hp tk =>
    (sims_cons (sim_set 2 sc_moved.nd (sim_listT B.n_list (sim_cons (sim_var 0) sim_nil)))
    (sims_cons (sim_for hp rfl (sim_iZip2 B.n_zip (sim_cons (sim_var 0) (sim_cons (sim_var 1) sim_nil))) (sim_gU rfl (sim_gsCons (sim_gN 3 sc_moved.nd) (sim_gsCons (sim_gN 4 sc_moved.nd) sim_gsNil))) (sims_cons (sim_setSub (sim_var 3) (sim_var 2) (sim_var 4))
    sims_nil))
    (sims_cons (sim_ret (sim_tuple B.n_tuple (sim_cons (sim_var 2) sim_nil)))
    sims_nil))))
theorem e_moved (B : Base K mg T ad) (h : 1 ≤ k) : ∃ a, EV.FnR P w K mg base (L2.CX P w) k a (spF T K R_moved) ∧ PySem.W.keepIn K (.ref a) = true ∧ mg "moved" = some (.ref a) := ⟨ad 25, (r_moved B).mono h, B.F_moved.elim fun _ F => F.kp, B.g_moved⟩
theorem bo_renamed (B : Base K mg T ad) : BodyOk P w K mg base T 6 "renamed" s_renamed (ad 26) ["code", "order", "word", "words"] b_renamed := fun cdv A outer s H E hr hp tk =>
    (sims_cons (sim_expr (sim_call ⟨e_check_code B (by omega)⟩ tk hr rfl (sim_cons (sim_var 0) sim_nil)))
    (sims_cons (sim_ifS (simT_not (sim_tV (sim_call ⟨e_is_order B (by omega)⟩ tk hr rfl (sim_cons (sim_var 1) (sim_cons (sim_prop 0 ⟨p_Code_bits B (by omega)⟩ B.c_Code hr (sim_var 0)) sim_nil))))) (sims_cons (sim_raiseA 5 B.e_NoOrder rfl tk (sim_cons sim_str sim_nil))
    sims_nil) sims_nil)
    (sims_cons (sim_setLc 3 [("word", 2)] rfl sc_renamed.nd (sim_iAny (sim_prop 0 ⟨p_Code_words B (by omega)⟩ B.c_Code hr (sim_var 0))) (blkOk_by (N := ["code", "order", "word", "words"]) (sc := defScope s_renamed) (by decide +kernel)) (sw_true rfl rfl rfl (by decide +kernel)) (fun _ _ _ _ _ => (sim_gN 2 sc_renamed.nd)) (fun _ _ _ _ _ => simTs_nil) (fun _ _ _ _ _ => (sim_call ⟨e_moved B (by omega)⟩ takes0 hr rfl (sim_cons (sim_var 2) (sim_cons (sim_var 1) sim_nil)))))
    (sims_cons (sim_ret (sim_makeS 0 false ⟨m_Code_init B (by omega)⟩ tk hr rfl (sim_var 3)))
    sims_nil))))
theorem ra_renamed (B : Base K mg T ad) : ∃ fd, Fun K "renamed" "renamed" s_renamed (ad 26) fd ∧ EV.FnRA P w K mg base (L2.CX P w) 7 (ad 26) fd ["code", "order"] (spF T K R_renamed) := by
  obtain ⟨fd, Fu⟩ := B.F_renamed
  exact ⟨fd, Fu, fn_frameA (fn_simA (k := 6) (ps := ["code", "order"]) (N := ["code", "order", "word", "words"]) Fu sc_renamed (bo_renamed B))⟩
theorem r_renamed (B : Base K mg T ad) : EV.FnR P w K mg base (L2.CX P w) 7 (ad 26) (spF T K R_renamed) := by
  obtain ⟨fd, Fu⟩ := B.F_renamed
  exact fn_frame (fn_sim (k := 6) (ps := ["code", "order"]) (N := ["code", "order", "word", "words"]) Fu sc_renamed (Fu.binds fun _ _ _ _ _ _ us hl => match us, hl with | [_, _], _ => rfl) (bo_renamed B))
theorem K_renamed_9e301b2a (B : Base K mg T ad) (h : 7 ≤ k) : ∃ a fd ps, EV.FnRA P w K mg base (L2.CX P w) k a fd ps (spF T K R_renamed) ∧ PySem.W.keepIn K (.ref a) = true ∧ mg "renamed" = some (.ref a) ∧ KwB fd ps ["order", "code"] [1, 0] := by
  obtain ⟨fd, Fu, Fa⟩ := ra_renamed B
  exact ⟨ad 26, fd, _, Fa.mono h, Fu.kp, B.g_renamed, EV.Fun.kw Fu fun _ _ _ _ _ _ ws hl => match ws, hl with | [_, _], _ => ⟨rfl, rfl⟩⟩
theorem e_renamed (B : Base K mg T ad) (h : 7 ≤ k) : ∃ a, EV.FnR P w K mg base (L2.CX P w) k a (spF T K R_renamed) ∧ PySem.W.keepIn K (.ref a) = true ∧ mg "renamed" = some (.ref a) := ⟨ad 26, (r_renamed B).mono h, B.F_renamed.elim fun _ F => F.kp, B.g_renamed⟩
theorem r_are_places (B : Base K mg T ad) : EV.FnR P w K mg base (L2.CX P w) 2 (ad 27) (spF T K R_are_places) := by
  obtain ⟨fd, Fu⟩ := B.F_are_places
  exact fn_frame (fn_sim (k := 1) (ps := ["thing", "bits"]) (N := ["thing", "bits", "place", "low", "high"]) Fu sc_are_places (Fu.binds fun _ _ _ _ _ _ us hl => match us, hl with | [_, _], _ => rfl) fun cdv A outer s H E hr hp tk =>
    (sims_cons (sim_ifS (simT_W (simW_or (simT_not (sim_tV (sim_isi B.n_isinstance B.n_tuple (by first | rfl | decide +kernel) (sim_var 0)))) (simW_or1 (simT_not (sim_tV (sim_all rfl B.n_all (sim_cons (sim_lc [("place", 2)] rfl sc_are_places.nd (sim_iAny (sim_var 0)) (blkOk_by (N := ["thing", "bits", "place", "low", "high"]) (sc := defScope s_are_places) (by decide +kernel)) (fun _ _ _ _ _ => (sim_gN 2 sc_are_places.nd)) (fun _ _ _ _ _ => simTs_nil) (fun _ _ _ _ _ => (sim_call ⟨e_is_between B (by omega)⟩ takes0 hr rfl (sim_cons (sim_var 2) (sim_cons sim_int (sim_cons (sim_sub (sim_var 1) sim_int) sim_nil)))))) sim_nil))))))) (sims_cons (sim_ret sim_bl)
    sims_nil) sims_nil)
    (sims_cons (sim_ret (sim_all rfl B.n_all (sim_cons (sim_lc [("low", 3), ("high", 4)] rfl sc_are_places.nd (sim_iZip2 B.n_zip (sim_cons (sim_var 0) (sim_cons (sim_cut (sim_var 0) (sim_oSome sim_int) sim_oNone) sim_nil))) (blkOk_by (N := ["thing", "bits", "place", "low", "high"]) (sc := defScope s_are_places) (by decide +kernel)) (fun _ _ _ _ _ => (sim_gU rfl (sim_gsCons (sim_gN 3 sc_are_places.nd) (sim_gsCons (sim_gN 4 sc_are_places.nd) sim_gsNil)))) (fun _ _ _ _ _ => simTs_nil) (fun _ _ _ _ _ => (sim_lt (sim_var 3) (sim_var 4)))) sim_nil)))
    sims_nil)))
theorem e_are_places (B : Base K mg T ad) (h : 2 ≤ k) : ∃ a, EV.FnR P w K mg base (L2.CX P w) k a (spF T K R_are_places) ∧ PySem.W.keepIn K (.ref a) = true ∧ mg "are_places" = some (.ref a) := ⟨ad 27, (r_are_places B).mono h, B.F_are_places.elim fun _ F => F.kp, B.g_are_places⟩
theorem r_exchanged (B : Base K mg T ad) : EV.FnR P w K mg base (L2.CX P w) 1 (ad 28) (spF T K R_exchanged) := by
  obtain ⟨fd, Fu⟩ := B.F_exchanged
  exact fn_frame (fn_sim (k := 0) (ps := ["word", "places"]) (N := ["word", "places", "place", "bit"]) Fu sc_exchanged (Fu.binds fun _ _ _ _ _ _ us hl => match us, hl with | [_, _], _ => rfl) fun cdv A outer s H E hr hp tk =>
    (sims_cons (sim_ret (sim_tuple B.n_tuple (sim_cons (sim_lc [("place", 2), ("bit", 3)] rfl sc_exchanged.nd (sim_iEnumA B.n_enumerate (sim_cons (sim_var 0) sim_nil)) (blkOk_by (N := ["word", "places", "place", "bit"]) (sc := defScope s_exchanged) (by decide +kernel)) (fun _ _ _ _ _ => (sim_gU rfl (sim_gsCons (sim_gN 2 sc_exchanged.nd) (sim_gsCons (sim_gN 3 sc_exchanged.nd) sim_gsNil)))) (fun _ _ _ _ _ => simTs_nil) (fun _ _ _ _ _ => (sim_if (simT_in hr (sim_var 2) (sim_var 1)) (sim_sub sim_int (sim_var 3)) (sim_var 3)))) sim_nil)))
    sims_nil))
theorem e_exchanged (B : Base K mg T ad) (h : 1 ≤ k) : ∃ a, EV.FnR P w K mg base (L2.CX P w) k a (spF T K R_exchanged) ∧ PySem.W.keepIn K (.ref a) = true ∧ mg "exchanged" = some (.ref a) := ⟨ad 28, (r_exchanged B).mono h, B.F_exchanged.elim fun _ F => F.kp, B.g_exchanged⟩
theorem bo_flipped (B : Base K mg T ad) : BodyOk P w K mg base T 6 "flipped" s_flipped (ad 29) ["code", "places", "word", "words"] b_flipped := fun cdv A outer s H E hr hp tk =>
    (sims_cons (sim_expr (sim_call ⟨e_check_code B (by omega)⟩ tk hr rfl (sim_cons (sim_var 0) sim_nil)))
    (sims_cons (sim_ifS (simT_not (sim_tV (sim_call ⟨e_are_places B (by omega)⟩ tk hr rfl (sim_cons (sim_var 1) (sim_cons (sim_prop 0 ⟨p_Code_bits B (by omega)⟩ B.c_Code hr (sim_var 0)) sim_nil))))) (sims_cons (sim_raiseA 6 B.e_NoPlaces rfl tk (sim_cons sim_str sim_nil))
    sims_nil) sims_nil)
    (sims_cons (sim_setLc 3 [("word", 2)] rfl sc_flipped.nd (sim_iAny (sim_prop 0 ⟨p_Code_words B (by omega)⟩ B.c_Code hr (sim_var 0))) (blkOk_by (N := ["code", "places", "word", "words"]) (sc := defScope s_flipped) (by decide +kernel)) (sw_true rfl rfl rfl (by decide +kernel)) (fun _ _ _ _ _ => (sim_gN 2 sc_flipped.nd)) (fun _ _ _ _ _ => simTs_nil) (fun _ _ _ _ _ => (sim_call ⟨e_exchanged B (by omega)⟩ takes0 hr rfl (sim_cons (sim_var 2) (sim_cons (sim_var 1) sim_nil)))))
    (sims_cons (sim_ret (sim_makeS 0 false ⟨m_Code_init B (by omega)⟩ tk hr rfl (sim_var 3)))
    sims_nil))))
theorem ra_flipped (B : Base K mg T ad) : ∃ fd, Fun K "flipped" "flipped" s_flipped (ad 29) fd ∧ EV.FnRA P w K mg base (L2.CX P w) 7 (ad 29) fd ["code", "places"] (spF T K R_flipped) := by
  obtain ⟨fd, Fu⟩ := B.F_flipped
  exact ⟨fd, Fu, fn_frameA (fn_simA (k := 6) (ps := ["code", "places"]) (N := ["code", "places", "word", "words"]) Fu sc_flipped (bo_flipped B))⟩
theorem r_flipped (B : Base K mg T ad) : EV.FnR P w K mg base (L2.CX P w) 7 (ad 29) (spF T K R_flipped) := by
  obtain ⟨fd, Fu⟩ := B.F_flipped
  exact fn_frame (fn_sim (k := 6) (ps := ["code", "places"]) (N := ["code", "places", "word", "words"]) Fu sc_flipped (Fu.binds fun _ _ _ _ _ _ us hl => match us, hl with | [_, _], _ => rfl) (bo_flipped B))
theorem K_flipped_5053aae7 (B : Base K mg T ad) (h : 7 ≤ k) : ∃ a fd ps, EV.FnRA P w K mg base (L2.CX P w) k a fd ps (spF T K R_flipped) ∧ PySem.W.keepIn K (.ref a) = true ∧ mg "flipped" = some (.ref a) ∧ KwB fd ps ["places", "code"] [1, 0] := by
  obtain ⟨fd, Fu, Fa⟩ := ra_flipped B
  exact ⟨ad 29, fd, _, Fa.mono h, Fu.kp, B.g_flipped, EV.Fun.kw Fu fun _ _ _ _ _ _ ws hl => match ws, hl with | [_, _], _ => ⟨rfl, rfl⟩⟩
theorem e_flipped (B : Base K mg T ad) (h : 7 ≤ k) : ∃ a, EV.FnR P w K mg base (L2.CX P w) k a (spF T K R_flipped) ∧ PySem.W.keepIn K (.ref a) = true ∧ mg "flipped" = some (.ref a) := ⟨ad 29, (r_flipped B).mono h, B.F_flipped.elim fun _ F => F.kp, B.g_flipped⟩
theorem r_Code_len (B : Base K mg T ad) : EV.FnR P w K mg base (L2.CX P w) 1 (ad 7) (spF T K R_Code_len) := by
  obtain ⟨fd, Fu⟩ := B.F_Code_len
  exact fn_frame (fn_sim (k := 0) (ps := ["self"]) (N := ["self"]) Fu sc_Code_len (Fu.binds fun _ _ _ _ _ _ us hl => match us, hl with | [_], _ => rfl) fun cdv A outer s H E hr hp tk =>
    (sims_cons (sim_ret (sim_len B.n_len (sim_cons (sim_fld 0 0 B.c_Code (by rw [B.nm_Code]; rfl) (sim_var 0)) sim_nil)))
    sims_nil))
theorem x_Code_len (B : Base K mg T ad) (h : 1 + 1 ≤ k) : ∃ j a, j + 1 ≤ k ∧ PySem.W.findIn K (.ref (T.cls 0)) "__len__" = some (some (.ref a)) ∧ PySem.W.isFn K (.ref a) = true ∧ PySem.W.fnIn K a = true ∧ EV.FnR P w K mg base (L2.CX P w) j a (spF T K R_Code_len) := ⟨1, ad 7, h, B.s_Code_len.1, B.s_Code_len.2.1, B.s_Code_len.2.2, (r_Code_len B)⟩
theorem r_Code_neg (B : Base K mg T ad) : EV.FnR P w K mg base (L2.CX P w) 7 (ad 13) (spF T K R_Code_neg) := by
  obtain ⟨fd, Fu⟩ := B.F_Code_neg
  exact fn_frame (fn_sim (k := 6) (ps := ["self"]) (N := ["self", "words"]) Fu sc_Code_neg (Fu.binds fun _ _ _ _ _ _ us hl => match us, hl with | [_], _ => rfl) fun cdv A outer s H E hr hp tk =>
    (sims_cons (sim_set 1 sc_Code_neg.nd (sim_add (sim_cut (sim_fld 0 0 B.c_Code (by rw [B.nm_Code]; rfl) (sim_var 0)) sim_oNone (sim_oSome sim_int)) (sim_rev0 (sim_fld 0 0 B.c_Code (by rw [B.nm_Code]; rfl) (sim_var 0)))))
    (sims_cons (sim_ret (sim_makeS 0 false ⟨m_Code_init B (by omega)⟩ tk hr rfl (sim_var 1)))
    sims_nil)))
theorem x_Code_neg (B : Base K mg T ad) (h : 7 + 1 ≤ k) : ∃ j a, j + 1 ≤ k ∧ PySem.W.findIn K (.ref (T.cls 0)) "__neg__" = some (some (.ref a)) ∧ PySem.W.isFn K (.ref a) = true ∧ PySem.W.fnIn K a = true ∧ EV.FnR P w K mg base (L2.CX P w) j a (spF T K R_Code_neg) := ⟨7, ad 13, h, B.s_Code_neg.1, B.s_Code_neg.2.1, B.s_Code_neg.2.2, (r_Code_neg B)⟩
theorem r_column (B : Base K mg T ad) : EV.FnR P w K mg base (L2.CX P w) 3 (ad 30) (spF T K R_column) := by
  obtain ⟨fd, Fu⟩ := B.F_column
  exact fn_frame (fn_sim (k := 2) (ps := ["code", "place"]) (N := ["code", "place", "start", "word"]) Fu sc_column (Fu.binds fun _ _ _ _ _ _ us hl => match us, hl with | [_, _], _ => rfl) fun cdv A outer s H E hr hp tk =>
    (sims_cons (sim_set 2 sc_column.nd (sim_idx (sim_idx (sim_prop 0 ⟨p_Code_words B (by omega)⟩ B.c_Code hr (sim_var 0)) sim_int) (sim_var 1)))
    (sims_cons (sim_ret (sim_lc [("word", 3)] rfl sc_column.nd (sim_iAny (sim_prop 0 ⟨p_Code_words B (by omega)⟩ B.c_Code hr (sim_var 0))) (blkOk_by (N := ["code", "place", "start", "word"]) (sc := defScope s_column) (by decide +kernel)) (fun _ _ _ _ _ => (sim_gN 3 sc_column.nd)) (fun _ _ _ _ _ => simTs_nil) (fun _ _ _ _ _ => (sim_xor (sim_idx (sim_var 3) (sim_var 1)) (sim_var 2)))))
    sims_nil)))
theorem e_column (B : Base K mg T ad) (h : 3 ≤ k) : ∃ a, EV.FnR P w K mg base (L2.CX P w) k a (spF T K R_column) ∧ PySem.W.keepIn K (.ref a) = true ∧ mg "column" = some (.ref a) := ⟨ad 30, (r_column B).mono h, B.F_column.elim fun _ F => F.kp, B.g_column⟩
theorem r_fitting_order (B : Base K mg T ad) : EV.FnR P w K mg base (L2.CX P w) 4 (ad 31) (spF T K R_fitting_order) := by
  obtain ⟨fd, Fu⟩ := B.F_fitting_order
  exact fn_frame (fn_sim (k := 3) (ps := ["one", "other"]) (N := ["one", "other", "order", "place", "to", "free"]) Fu sc_fitting_order (Fu.binds fun _ _ _ _ _ _ us hl => match us, hl with | [_, _], _ => rfl) fun cdv A outer s H E hr hp tk =>
    (sims_cons (sim_set 2 sc_fitting_order.nd (sim_lstT sim_nil))
    (sims_cons (sim_for hp rfl (sim_iR1 B.n_range (sim_cons (sim_prop 0 ⟨p_Code_bits B (by omega)⟩ B.c_Code hr (sim_var 0)) sim_nil)) (sim_gN 3 sc_fitting_order.nd) (sims_cons (sim_setLc 5 [("to", 4)] rfl sc_fitting_order.nd (sim_iR1 B.n_range (sim_cons (sim_prop 0 ⟨p_Code_bits B (by omega)⟩ B.c_Code hr (sim_var 1)) sim_nil)) (blkOk_by (N := ["one", "other", "order", "place", "to", "free"]) (sc := defScope s_fitting_order) (by decide +kernel)) (sw_true rfl rfl rfl (by decide +kernel)) (fun _ _ _ _ _ => (sim_gN 4 sc_fitting_order.nd)) (fun _ _ _ _ _ => (simTs_one (simT_W (simW_and (simT_notIn hr (sim_var 4) (sim_var 2)) (simW_and1 (simT_eq hr (sim_call ⟨e_column B (by omega)⟩ takes0 hr rfl (sim_cons (sim_var 1) (sim_cons (sim_var 4) sim_nil))) (sim_call ⟨e_column B (by omega)⟩ takes0 hr rfl (sim_cons (sim_var 0) (sim_cons (sim_var 3) sim_nil))))))))) (fun _ _ _ _ _ => (sim_var 4)))
    (sims_cons (sim_ifS (simT_not (sim_tVV (sim_var 5))) (sims_cons (sim_ret sim_non)
    sims_nil) sims_nil)
    (sims_cons (sim_expr (sim_append (sim_var 2) (sim_cons (sim_idx (sim_var 5) sim_int) sim_nil)))
    sims_nil))))
    (sims_cons (sim_ret (sim_tuple B.n_tuple (sim_cons (sim_var 2) sim_nil)))
    sims_nil))))
theorem e_fitting_order (B : Base K mg T ad) (h : 4 ≤ k) : ∃ a, EV.FnR P w K mg base (L2.CX P w) k a (spF T K R_fitting_order) ∧ PySem.W.keepIn K (.ref a) = true ∧ mg "fitting_order" = some (.ref a) := ⟨ad 31, (r_fitting_order B).mono h, B.F_fitting_order.elim fun _ F => F.kp, B.g_fitting_order⟩
theorem r_fitting_places (B : Base K mg T ad) : EV.FnR P w K mg base (L2.CX P w) 6 (ad 32) (spF T K R_fitting_places) := by
  obtain ⟨fd, Fu⟩ := B.F_fitting_places
  exact fn_frame (fn_sim (k := 5) (ps := ["one", "other", "order"]) (N := ["one", "other", "order", "start", "goal", "place", "to"]) Fu sc_fitting_places (Fu.binds fun _ _ _ _ _ _ us hl => match us, hl with | [_, _, _], _ => rfl) fun cdv A outer s H E hr hp tk =>
    (sims_cons (sim_parC2 3 4 rfl sc_fitting_places.nd (sim_cons (sim_callO 0 ⟨o_Code_call B (by omega)⟩ tk hr (sim_var 0) (sim_cons sim_int sim_nil)) (sim_cons (sim_callO 0 ⟨o_Code_call B (by omega)⟩ tk hr (sim_var 1) (sim_cons sim_int sim_nil)) sim_nil)))
    (sims_cons (sim_ret (sim_tuple B.n_tuple (sim_cons (sim_lc [("place", 5), ("to", 6)] rfl sc_fitting_places.nd (sim_iEnumA B.n_enumerate (sim_cons (sim_var 2) sim_nil)) (blkOk_by (N := ["one", "other", "order", "start", "goal", "place", "to"]) (sc := defScope s_fitting_places) (by decide +kernel)) (fun _ _ _ _ _ => (sim_gU rfl (sim_gsCons (sim_gN 5 sc_fitting_places.nd) (sim_gsCons (sim_gN 6 sc_fitting_places.nd) sim_gsNil)))) (fun _ _ _ _ _ => (simTs_one (simT_ne hr (sim_idx (sim_var 3) (sim_var 5)) (sim_subO ⟨x_Code_getitem B (by omega)⟩ takes0 hr (sim_var 4) (sim_var 6))))) (fun _ _ _ _ _ => (sim_var 5))) sim_nil)))
    sims_nil)))
theorem e_fitting_places (B : Base K mg T ad) (h : 6 ≤ k) : ∃ a, EV.FnR P w K mg base (L2.CX P w) k a (spF T K R_fitting_places) ∧ PySem.W.keepIn K (.ref a) = true ∧ mg "fitting_places" = some (.ref a) := ⟨ad 32, (r_fitting_places B).mono h, B.F_fitting_places.elim fun _ F => F.kp, B.g_fitting_places⟩
theorem bo_alike (B : Base K mg T ad) : BodyOk P w K mg base T 8 "alike" s_alike (ad 33) ["one", "other", "begin", "back", "way", "goal", "order"] b_alike := fun cdv A outer s H E hr hp tk =>
    (sims_cons (sim_expr (sim_call ⟨e_check_code B (by omega)⟩ tk hr rfl (sim_cons (sim_var 0) sim_nil)))
    (sims_cons (sim_expr (sim_call ⟨e_check_code B (by omega)⟩ tk hr rfl (sim_cons (sim_var 1) sim_nil)))
    (sims_cons (sim_ifS (simT_W (simW_or (simT_ne hr (sim_lenO 0 ⟨x_Code_len B (by omega)⟩ hr B.n_len (sim_cons (sim_var 0) sim_nil)) (sim_lenO 0 ⟨x_Code_len B (by omega)⟩ hr B.n_len (sim_cons (sim_var 1) sim_nil))) (simW_or1 (simT_ne hr (sim_prop 0 ⟨p_Code_bits B (by omega)⟩ B.c_Code hr (sim_var 0)) (sim_prop 0 ⟨p_Code_bits B (by omega)⟩ B.c_Code hr (sim_var 1)))))) (sims_cons (sim_ret sim_non)
    sims_nil) sims_nil)
    (sims_cons (sim_for hp rfl (sim_iR1 B.n_range (sim_cons (sim_lenO 0 ⟨x_Code_len B (by omega)⟩ hr B.n_len (sim_cons (sim_var 0) sim_nil)) sim_nil)) (sim_gN 2 sc_alike.nd) (sims_cons (sim_set 3 sc_alike.nd (sim_call ⟨e_turned B (by omega)⟩ tk hr rfl (sim_cons (sim_var 1) (sim_cons (sim_mod (sim_neg (sim_var 2)) (sim_lenO 0 ⟨x_Code_len B (by omega)⟩ hr B.n_len (sim_cons (sim_var 0) sim_nil))) sim_nil))))
    (sims_cons (sim_for hp rfl (sim_iAny (sim_tup (sim_cons (sim_neg sim_int) (sim_cons sim_int sim_nil)))) (sim_gN 4 sc_alike.nd) (sims_cons (sim_set 5 sc_alike.nd (sim_if (simT_lt (sim_var 4) sim_int) (sim_negO ⟨x_Code_neg B (by omega)⟩ hr (sim_var 3)) (sim_var 3)))
    (sims_cons (sim_set 6 sc_alike.nd (sim_call ⟨e_fitting_order B (by omega)⟩ tk hr rfl (sim_cons (sim_var 0) (sim_cons (sim_var 5) sim_nil))))
    (sims_cons (sim_ifS (simT_notN (sim_var 6)) (sims_cons (sim_ret (sim_tup (sim_cons (sim_var 2) (sim_cons (sim_var 4) (sim_cons (sim_var 6) (sim_cons (sim_call ⟨e_fitting_places B (by omega)⟩ tk hr rfl (sim_cons (sim_var 0) (sim_cons (sim_var 5) (sim_cons (sim_var 6) sim_nil)))) sim_nil))))))
    sims_nil) sims_nil)
    sims_nil))))
    sims_nil)))
    (sims_cons (sim_ret sim_non)
    sims_nil)))))
theorem ra_alike (B : Base K mg T ad) : ∃ fd, Fun K "alike" "alike" s_alike (ad 33) fd ∧ EV.FnRA P w K mg base (L2.CX P w) 9 (ad 33) fd ["one", "other"] (spF T K R_alike) := by
  obtain ⟨fd, Fu⟩ := B.F_alike
  exact ⟨fd, Fu, fn_frameA (fn_simA (k := 8) (ps := ["one", "other"]) (N := ["one", "other", "begin", "back", "way", "goal", "order"]) Fu sc_alike (bo_alike B))⟩
theorem r_alike (B : Base K mg T ad) : EV.FnR P w K mg base (L2.CX P w) 9 (ad 33) (spF T K R_alike) := by
  obtain ⟨fd, Fu⟩ := B.F_alike
  exact fn_frame (fn_sim (k := 8) (ps := ["one", "other"]) (N := ["one", "other", "begin", "back", "way", "goal", "order"]) Fu sc_alike (Fu.binds fun _ _ _ _ _ _ us hl => match us, hl with | [_, _], _ => rfl) (bo_alike B))
theorem K_alike_889e3945 (B : Base K mg T ad) (h : 9 ≤ k) : ∃ a fd ps, EV.FnRA P w K mg base (L2.CX P w) k a fd ps (spF T K R_alike) ∧ PySem.W.keepIn K (.ref a) = true ∧ mg "alike" = some (.ref a) ∧ KwB fd ps ["other", "one"] [1, 0] := by
  obtain ⟨fd, Fu, Fa⟩ := ra_alike B
  exact ⟨ad 33, fd, _, Fa.mono h, Fu.kp, B.g_alike, EV.Fun.kw Fu fun _ _ _ _ _ _ ws hl => match ws, hl with | [_, _], _ => ⟨rfl, rfl⟩⟩
theorem e_alike (B : Base K mg T ad) (h : 9 ≤ k) : ∃ a, EV.FnR P w K mg base (L2.CX P w) k a (spF T K R_alike) ∧ PySem.W.keepIn K (.ref a) = true ∧ mg "alike" = some (.ref a) := ⟨ad 33, (r_alike B).mono h, B.F_alike.elim fun _ F => F.kp, B.g_alike⟩
theorem r_window_of (B : Base K mg T ad) : EV.FnR P w K mg base (L2.CX P w) 3 (ad 34) (spF T K R_window_of) := by
  obtain ⟨fd, Fu⟩ := B.F_window_of
  exact fn_frame (fn_sim (k := 2) (ps := ["code", "value", "span"]) (N := ["code", "value", "span"]) Fu sc_window_of (Fu.binds fun _ _ _ _ _ _ us hl => match us, hl with | [_, _, _], _ => rfl) fun cdv A outer s H E hr hp tk =>
    (sims_cons (sim_ret (sim_cut (sim_mul (sim_prop 0 ⟨p_Code_words B (by omega)⟩ B.c_Code hr (sim_var 0)) (sim_add (sim_var 2) sim_int)) (sim_oSome (sim_var 1)) (sim_oSome (sim_add (sim_add (sim_var 1) (sim_var 2)) sim_int))))
    sims_nil))
theorem e_window_of (B : Base K mg T ad) (h : 3 ≤ k) : ∃ a, EV.FnR P w K mg base (L2.CX P w) k a (spF T K R_window_of) ∧ PySem.W.keepIn K (.ref a) = true ∧ mg "window_of" = some (.ref a) := ⟨ad 34, (r_window_of B).mono h, B.F_window_of.elim fun _ F => F.kp, B.g_window_of⟩
theorem r_mixtures (B : Base K mg T ad) : EV.FnR P w K mg base (L2.CX P w) 1 (ad 35) (spF T K R_mixtures) := by
  obtain ⟨fd, Fu⟩ := B.F_mixtures
  exact fn_frame (fn_sim (k := 0) (ps := ["words"]) (N := ["words", "found", "bits", "start", "bit"]) Fu sc_mixtures (Fu.binds fun _ _ _ _ _ _ us hl => match us, hl with | [_], _ => rfl) fun cdv A outer s H E hr hp tk =>
    (sims_cons (sim_set 1 sc_mixtures.nd (sim_lst (sim_cons (sim_tup sim_nil) sim_nil)))
    (sims_cons (sim_for hp rfl (sim_iZipS B.n_zip (sim_var 0)) (sim_gN 2 sc_mixtures.nd) (sims_cons (sim_ifS (simT_notIn hr sim_int (sim_var 2)) (sims_cons (sim_setLc 1 [("start", 3)] rfl sc_mixtures.nd (sim_iAny (sim_var 1)) (blkOk_by (N := ["words", "found", "bits", "start", "bit"]) (sc := defScope s_mixtures) (by decide +kernel)) (sw_true rfl rfl rfl (by decide +kernel)) (fun _ _ _ _ _ => (sim_gN 3 sc_mixtures.nd)) (fun _ _ _ _ _ => simTs_nil) (fun _ _ _ _ _ => (sim_tup (sim_star (sim_var 3) (sim_cons sim_int sim_nil)))))
    sims_nil) (sims_cons (sim_ifS (simT_notIn hr sim_int (sim_var 2)) (sims_cons (sim_setLc 1 [("start", 3)] rfl sc_mixtures.nd (sim_iAny (sim_var 1)) (blkOk_by (N := ["words", "found", "bits", "start", "bit"]) (sc := defScope s_mixtures) (by decide +kernel)) (sw_true rfl rfl rfl (by decide +kernel)) (fun _ _ _ _ _ => (sim_gN 3 sc_mixtures.nd)) (fun _ _ _ _ _ => simTs_nil) (fun _ _ _ _ _ => (sim_tup (sim_star (sim_var 3) (sim_cons sim_int sim_nil)))))
    sims_nil) (sims_cons (sim_setLc2 1 [("start", 3), ("bit", 4)] [4] rfl sc_mixtures.nd (sim_iAny (sim_var 1)) (blkOk_by (N := ["words", "found", "bits", "start", "bit"]) (sc := defScope s_mixtures) (by decide +kernel)) (sw_true rfl rfl rfl (by decide +kernel)) (fun _ _ _ _ _ => (sim_gN 3 sc_mixtures.nd)) (fun _ _ _ _ _ => simTs_nil) (fun _ _ _ _ _ => (sim_iAny (sim_tup (sim_cons sim_int (sim_cons sim_int sim_nil))))) (fun _ _ _ _ _ => (sim_gN 4 sc_mixtures.nd)) (fun _ _ _ _ _ => simTs_nil) (fun _ _ _ _ _ => (sim_tup (sim_star (sim_var 3) (sim_cons (sim_var 4) sim_nil)))))
    sims_nil))
    sims_nil))
    sims_nil))
    (sims_cons (sim_ret (sim_tuple B.n_tuple (sim_cons (sim_var 1) sim_nil)))
    sims_nil))))
theorem e_mixtures (B : Base K mg T ad) (h : 1 ≤ k) : ∃ a, EV.FnR P w K mg base (L2.CX P w) k a (spF T K R_mixtures) ∧ PySem.W.keepIn K (.ref a) = true ∧ mg "mixtures" = some (.ref a) := ⟨ad 35, (r_mixtures B).mono h, B.F_mixtures.elim fun _ F => F.kp, B.g_mixtures⟩
theorem r_seen (B : Base K mg T ad) : EV.FnR P w K mg base (L2.CX P w) 4 (ad 36) (spF T K R_seen) := by
  obtain ⟨fd, Fu⟩ := B.F_seen
  exact fn_frame (fn_sim (k := 3) (ps := ["code", "value", "span"]) (N := ["code", "value", "span"]) Fu sc_seen (Fu.binds fun _ _ _ _ _ _ us hl => match us, hl with | [_, _, _], _ => rfl) fun cdv A outer s H E hr hp tk =>
    (sims_memo 0 2 0 1 2 hr rfl B.c_Code (by rw [B.nm_Code]; rfl) (pvN 0) (pvN 0) (pvN 0) (pvN 1) (pvN 1) (pvN 1) (pvN 2) (pvN 2) (pvN 2) (sim_quiet (sim_call ⟨e_mixtures B (by omega)⟩ tk hr rfl (sim_cons (sim_call ⟨e_window_of B (by omega)⟩ tk hr rfl (sim_cons (sim_var 0) (sim_cons (sim_var 1) (sim_cons (sim_var 2) sim_nil)))) sim_nil))) (memo_ok B.memo)))
theorem e_seen (B : Base K mg T ad) (h : 4 ≤ k) : ∃ a, EV.FnR P w K mg base (L2.CX P w) k a (spF T K R_seen) ∧ PySem.W.keepIn K (.ref a) = true ∧ mg "seen" = some (.ref a) := ⟨ad 36, (r_seen B).mono h, B.F_seen.elim fun _ F => F.kp, B.g_seen⟩
theorem bo_mixes (B : Base K mg T ad) : BodyOk P w K mg base T 4 "mixes" s_mixes (ad 37) ["code", "value"] b_mixes := fun cdv A outer s H E hr hp tk =>
    (sims_cons (sim_expr (sim_call ⟨e_check_code B (by omega)⟩ tk hr rfl (sim_cons (sim_var 0) sim_nil)))
    (sims_cons (sim_expr (sim_call ⟨e_check_value B (by omega)⟩ tk hr rfl (sim_cons (sim_var 0) (sim_cons (sim_var 1) sim_nil))))
    (sims_cons (sim_ret (sim_call ⟨e_seen B (by omega)⟩ tk hr rfl (sim_cons (sim_var 0) (sim_cons (sim_var 1) (sim_cons sim_int sim_nil)))))
    sims_nil)))
theorem ra_mixes (B : Base K mg T ad) : ∃ fd, Fun K "mixes" "mixes" s_mixes (ad 37) fd ∧ EV.FnRA P w K mg base (L2.CX P w) 5 (ad 37) fd ["code", "value"] (spF T K R_mixes) := by
  obtain ⟨fd, Fu⟩ := B.F_mixes
  exact ⟨fd, Fu, fn_frameA (fn_simA (k := 4) (ps := ["code", "value"]) (N := ["code", "value"]) Fu sc_mixes (bo_mixes B))⟩
theorem r_mixes (B : Base K mg T ad) : EV.FnR P w K mg base (L2.CX P w) 5 (ad 37) (spF T K R_mixes) := by
  obtain ⟨fd, Fu⟩ := B.F_mixes
  exact fn_frame (fn_sim (k := 4) (ps := ["code", "value"]) (N := ["code", "value"]) Fu sc_mixes (Fu.binds fun _ _ _ _ _ _ us hl => match us, hl with | [_, _], _ => rfl) (bo_mixes B))
theorem K_mixes_8b4cb2e7 (B : Base K mg T ad) (h : 5 ≤ k) : ∃ a fd ps, EV.FnRA P w K mg base (L2.CX P w) k a fd ps (spF T K R_mixes) ∧ PySem.W.keepIn K (.ref a) = true ∧ mg "mixes" = some (.ref a) ∧ KwB fd ps ["value", "code"] [1, 0] := by
  obtain ⟨fd, Fu, Fa⟩ := ra_mixes B
  exact ⟨ad 37, fd, _, Fa.mono h, Fu.kp, B.g_mixes, EV.Fun.kw Fu fun _ _ _ _ _ _ ws hl => match ws, hl with | [_, _], _ => ⟨rfl, rfl⟩⟩
theorem e_mixes (B : Base K mg T ad) (h : 5 ≤ k) : ∃ a, EV.FnR P w K mg base (L2.CX P w) k a (spF T K R_mixes) ∧ PySem.W.keepIn K (.ref a) = true ∧ mg "mixes" = some (.ref a) := ⟨ad 37, (r_mixes B).mono h, B.F_mixes.elim fun _ F => F.kp, B.g_mixes⟩
theorem bo_changes (B : Base K mg T ad) : BodyOk P w K mg base T 3 "changes" s_changes (ad 38) ["code", "value", "old", "new", "place"] b_changes := fun cdv A outer s H E hr hp tk =>
    (sims_cons (sim_expr (sim_call ⟨e_check_code B (by omega)⟩ tk hr rfl (sim_cons (sim_var 0) sim_nil)))
    (sims_cons (sim_expr (sim_call ⟨e_check_value B (by omega)⟩ tk hr rfl (sim_cons (sim_var 0) (sim_cons (sim_var 1) sim_nil))))
    (sims_cons (sim_asg (sim_gU rfl (sim_gsCons (sim_gN 2 sc_changes.nd) (sim_gsCons (sim_gN 3 sc_changes.nd) sim_gsNil))) (sim_call ⟨e_window_of B (by omega)⟩ tk hr rfl (sim_cons (sim_var 0) (sim_cons (sim_var 1) (sim_cons sim_int sim_nil)))))
    (sims_cons (sim_ret (sim_tuple B.n_tuple (sim_cons (sim_lc [("place", 4)] rfl sc_changes.nd (sim_iR1 B.n_range (sim_cons (sim_prop 0 ⟨p_Code_bits B (by omega)⟩ B.c_Code hr (sim_var 0)) sim_nil)) (blkOk_by (N := ["code", "value", "old", "new", "place"]) (sc := defScope s_changes) (by decide +kernel)) (fun _ _ _ _ _ => (sim_gN 4 sc_changes.nd)) (fun _ _ _ _ _ => (simTs_one (simT_ne hr (sim_idx (sim_var 2) (sim_var 4)) (sim_idx (sim_var 3) (sim_var 4))))) (fun _ _ _ _ _ => (sim_var 4))) sim_nil)))
    sims_nil))))
theorem ra_changes (B : Base K mg T ad) : ∃ fd, Fun K "changes" "changes" s_changes (ad 38) fd ∧ EV.FnRA P w K mg base (L2.CX P w) 4 (ad 38) fd ["code", "value"] (spF T K R_changes) := by
  obtain ⟨fd, Fu⟩ := B.F_changes
  exact ⟨fd, Fu, fn_frameA (fn_simA (k := 3) (ps := ["code", "value"]) (N := ["code", "value", "old", "new", "place"]) Fu sc_changes (bo_changes B))⟩
theorem r_changes (B : Base K mg T ad) : EV.FnR P w K mg base (L2.CX P w) 4 (ad 38) (spF T K R_changes) := by
  obtain ⟨fd, Fu⟩ := B.F_changes
  exact fn_frame (fn_sim (k := 3) (ps := ["code", "value"]) (N := ["code", "value", "old", "new", "place"]) Fu sc_changes (Fu.binds fun _ _ _ _ _ _ us hl => match us, hl with | [_, _], _ => rfl) (bo_changes B))
theorem K_changes_8b4cb2e7 (B : Base K mg T ad) (h : 4 ≤ k) : ∃ a fd ps, EV.FnRA P w K mg base (L2.CX P w) k a fd ps (spF T K R_changes) ∧ PySem.W.keepIn K (.ref a) = true ∧ mg "changes" = some (.ref a) ∧ KwB fd ps ["value", "code"] [1, 0] := by
  obtain ⟨fd, Fu, Fa⟩ := ra_changes B
  exact ⟨ad 38, fd, _, Fa.mono h, Fu.kp, B.g_changes, EV.Fun.kw Fu fun _ _ _ _ _ _ ws hl => match ws, hl with | [_, _], _ => ⟨rfl, rfl⟩⟩
theorem e_changes (B : Base K mg T ad) (h : 4 ≤ k) : ∃ a, EV.FnR P w K mg base (L2.CX P w) k a (spF T K R_changes) ∧ PySem.W.keepIn K (.ref a) = true ∧ mg "changes" = some (.ref a) := ⟨ad 38, (r_changes B).mono h, B.F_changes.elim fun _ F => F.kp, B.g_changes⟩
theorem bo_is_single (B : Base K mg T ad) : BodyOk P w K mg base T 4 "is_single" s_is_single (ad 39) ["code", "value"] b_is_single := fun cdv A outer s H E hr hp tk =>
    (sims_cons (sim_expr (sim_call ⟨e_check_code B (by omega)⟩ tk hr rfl (sim_cons (sim_var 0) sim_nil)))
    (sims_cons (sim_ret (sim_all rfl B.n_all (sim_cons (sim_lc [("value", 1)] rfl sc_is_single.nd (sim_iR1 B.n_range (sim_cons (sim_lenO 0 ⟨x_Code_len B (by omega)⟩ hr B.n_len (sim_cons (sim_var 0) sim_nil)) sim_nil)) (blkOk_by (N := ["code", "value"]) (sc := defScope s_is_single) (by decide +kernel)) (fun _ _ _ _ _ => (sim_gN 1 sc_is_single.nd)) (fun _ _ _ _ _ => simTs_nil) (fun _ _ _ _ _ => (sim_eq hr (sim_len B.n_len (sim_cons (sim_call ⟨e_changes B (by omega)⟩ takes0 hr rfl (sim_cons (sim_var 0) (sim_cons (sim_var 1) sim_nil))) sim_nil)) sim_int))) sim_nil)))
    sims_nil))
theorem ra_is_single (B : Base K mg T ad) : ∃ fd, Fun K "is_single" "is_single" s_is_single (ad 39) fd ∧ EV.FnRA P w K mg base (L2.CX P w) 5 (ad 39) fd ["code"] (spF T K R_is_single) := by
  obtain ⟨fd, Fu⟩ := B.F_is_single
  exact ⟨fd, Fu, fn_frameA (fn_simA (k := 4) (ps := ["code"]) (N := ["code", "value"]) Fu sc_is_single (bo_is_single B))⟩
theorem r_is_single (B : Base K mg T ad) : EV.FnR P w K mg base (L2.CX P w) 5 (ad 39) (spF T K R_is_single) := by
  obtain ⟨fd, Fu⟩ := B.F_is_single
  exact fn_frame (fn_sim (k := 4) (ps := ["code"]) (N := ["code", "value"]) Fu sc_is_single (Fu.binds fun _ _ _ _ _ _ us hl => match us, hl with | [_], _ => rfl) (bo_is_single B))
theorem K_is_single_c1336794 (B : Base K mg T ad) (h : 5 ≤ k) : ∃ a fd ps, EV.FnRA P w K mg base (L2.CX P w) k a fd ps (spF T K R_is_single) ∧ PySem.W.keepIn K (.ref a) = true ∧ mg "is_single" = some (.ref a) ∧ KwB fd ps ["code"] [0] := by
  obtain ⟨fd, Fu, Fa⟩ := ra_is_single B
  exact ⟨ad 39, fd, _, Fa.mono h, Fu.kp, B.g_is_single, EV.Fun.kw Fu fun _ _ _ _ _ _ ws hl => match ws, hl with | [_], _ => ⟨rfl, rfl⟩⟩
theorem e_is_single (B : Base K mg T ad) (h : 5 ≤ k) : ∃ a, EV.FnR P w K mg base (L2.CX P w) k a (spF T K R_is_single) ∧ PySem.W.keepIn K (.ref a) = true ∧ mg "is_single" = some (.ref a) := ⟨ad 39, (r_is_single B).mono h, B.F_is_single.elim fun _ F => F.kp, B.g_is_single⟩
theorem r_check_span (B : Base K mg T ad) : EV.FnR P w K mg base (L2.CX P w) 2 (ad 3) (spF T K R_check_span) := by
  obtain ⟨fd, Fu⟩ := B.F_check_span
  exact fn_frame (fn_sim (k := 1) (ps := ["span", "high"]) (N := ["span", "high"]) Fu sc_check_span (Fu.binds fun _ _ _ _ _ _ us hl => match us, hl with | [_, _], _ => rfl) fun cdv A outer s H E hr hp tk =>
    (sims_cons (sim_ifS (simT_not (sim_tV (sim_call ⟨e_is_between B (by omega)⟩ tk hr rfl (sim_cons (sim_var 0) (sim_cons sim_int (sim_cons (sim_var 1) sim_nil)))))) (sims_cons (sim_raiseA 8 B.e_NoSpan rfl tk (sim_cons (sim_joined (.cons sim_str (.cons (sim_fmt (sim_var 1)) (.cons sim_str .nil)))) sim_nil))
    sims_nil) sims_nil)
    sims_nil))
theorem e_check_span (B : Base K mg T ad) (h : 2 ≤ k) : ∃ a, EV.FnR P w K mg base (L2.CX P w) k a (spF T K R_check_span) ∧ PySem.W.keepIn K (.ref a) = true ∧ mg "check_span" = some (.ref a) := ⟨ad 3, (r_check_span B).mono h, B.F_check_span.elim fun _ F => F.kp, B.g_check_span⟩
theorem bo_readings (B : Base K mg T ad) : BodyOk P w K mg base T 4 "readings" s_readings (ad 40) ["code", "value", "span"] b_readings := fun cdv A outer s H E hr hp tk =>
    (sims_cons (sim_expr (sim_call ⟨e_check_code B (by omega)⟩ tk hr rfl (sim_cons (sim_var 0) sim_nil)))
    (sims_cons (sim_expr (sim_call ⟨e_check_value B (by omega)⟩ tk hr rfl (sim_cons (sim_var 0) (sim_cons (sim_var 1) sim_nil))))
    (sims_cons (sim_expr (sim_call ⟨e_check_span B (by omega)⟩ tk hr rfl (sim_cons (sim_var 2) (sim_cons (sim_glob B.k_MOST_SPAN) sim_nil))))
    (sims_cons (sim_ret (sim_call ⟨e_seen B (by omega)⟩ tk hr rfl (sim_cons (sim_var 0) (sim_cons (sim_var 1) (sim_cons (sim_var 2) sim_nil)))))
    sims_nil))))
theorem ra_readings (B : Base K mg T ad) : ∃ fd, Fun K "readings" "readings" s_readings (ad 40) fd ∧ EV.FnRA P w K mg base (L2.CX P w) 5 (ad 40) fd ["code", "value", "span"] (spF T K R_readings) := by
  obtain ⟨fd, Fu⟩ := B.F_readings
  exact ⟨fd, Fu, fn_frameA (fn_simA (k := 4) (ps := ["code", "value", "span"]) (N := ["code", "value", "span"]) Fu sc_readings (bo_readings B))⟩
theorem r_readings (B : Base K mg T ad) : EV.FnR P w K mg base (L2.CX P w) 5 (ad 40) (spF T K R_readings) := by
  obtain ⟨fd, Fu⟩ := B.F_readings
  exact fn_frame (fn_sim (k := 4) (ps := ["code", "value", "span"]) (N := ["code", "value", "span"]) Fu sc_readings (Fu.binds fun _ _ _ _ _ _ us hl => match us, hl with | [_, _, _], _ => rfl) (bo_readings B))
theorem K_readings_66d86df4 (B : Base K mg T ad) (h : 5 ≤ k) : ∃ a fd ps, EV.FnRA P w K mg base (L2.CX P w) k a fd ps (spF T K R_readings) ∧ PySem.W.keepIn K (.ref a) = true ∧ mg "readings" = some (.ref a) ∧ KwB fd ps ["span", "value", "code"] [2, 1, 0] := by
  obtain ⟨fd, Fu, Fa⟩ := ra_readings B
  exact ⟨ad 40, fd, _, Fa.mono h, Fu.kp, B.g_readings, EV.Fun.kw Fu fun _ _ _ _ _ _ ws hl => match ws, hl with | [_, _, _], _ => ⟨rfl, rfl⟩⟩
theorem e_readings (B : Base K mg T ad) (h : 5 ≤ k) : ∃ a, EV.FnR P w K mg base (L2.CX P w) k a (spF T K R_readings) ∧ PySem.W.keepIn K (.ref a) = true ∧ mg "readings" = some (.ref a) := ⟨ad 40, (r_readings B).mono h, B.F_readings.elim fun _ F => F.kp, B.g_readings⟩
theorem r_numbers_of (B : Base K mg T ad) : EV.FnR P w K mg base (L2.CX P w) 3 (ad 41) (spF T K R_numbers_of) := by
  obtain ⟨fd, Fu⟩ := B.F_numbers_of
  exact fn_frame (fn_sim (k := 2) (ps := ["code"]) (N := ["code", "numbers", "word", "number", "bit"]) Fu sc_numbers_of (Fu.binds fun _ _ _ _ _ _ us hl => match us, hl with | [_], _ => rfl) fun cdv A outer s H E hr hp tk =>
    (sims_cons (sim_set 1 sc_numbers_of.nd (sim_lstT sim_nil))
    (sims_cons (sim_for hp rfl (sim_iAny (sim_prop 0 ⟨p_Code_words B (by omega)⟩ B.c_Code hr (sim_var 0))) (sim_gN 2 sc_numbers_of.nd) (sims_cons (sim_set 3 sc_numbers_of.nd sim_int)
    (sims_cons (sim_for hp rfl (sim_iAny (sim_var 2)) (sim_gN 4 sc_numbers_of.nd) (sims_cons (sim_set 3 sc_numbers_of.nd (sim_add (sim_mul sim_int (sim_var 3)) (sim_var 4)))
    sims_nil))
    (sims_cons (sim_expr (sim_append (sim_var 1) (sim_cons (sim_var 3) sim_nil)))
    sims_nil))))
    (sims_cons (sim_ret (sim_var 1))
    sims_nil))))
theorem e_numbers_of (B : Base K mg T ad) (h : 3 ≤ k) : ∃ a, EV.FnR P w K mg base (L2.CX P w) k a (spF T K R_numbers_of) ∧ PySem.W.keepIn K (.ref a) = true ∧ mg "numbers_of" = some (.ref a) := ⟨ad 41, (r_numbers_of B).mono h, B.F_numbers_of.elim fun _ F => F.kp, B.g_numbers_of⟩
theorem r_gaps_from (B : Base K mg T ad) : EV.FnR P w K mg base (L2.CX P w) 1 (ad 44) (spF T K R_gaps_from) := by
  obtain ⟨fd, Fu⟩ := B.F_gaps_from
  exact fn_frame (fn_sim (k := 0) (ps := ["values", "span"]) (N := ["values", "span", "ahead"]) Fu sc_gaps_from (Fu.binds fun _ _ _ _ _ _ us hl => match us, hl with | [_, _], _ => rfl) fun cdv A outer s H E hr hp tk =>
    (sims_cons (sim_ret (sim_lc [("ahead", 2)] rfl sc_gaps_from.nd (sim_iR1 B.n_range (sim_cons (sim_var 0) sim_nil)) (blkOk_by (N := ["values", "span", "ahead"]) (sc := defScope s_gaps_from) (by decide +kernel)) (fun _ _ _ _ _ => (sim_gN 2 sc_gaps_from.nd)) (fun _ _ _ _ _ => simTs_nil) (fun _ _ _ _ _ => (sim_max2 rfl B.n_max (sim_cons sim_int (sim_cons (sim_min2 rfl B.n_min (sim_cons (sim_sub (sim_var 2) (sim_var 1)) (sim_cons (sim_sub (sim_var 0) (sim_var 2)) sim_nil))) sim_nil))))))
    sims_nil))
theorem e_gaps_from (B : Base K mg T ad) (h : 1 ≤ k) : ∃ a, EV.FnR P w K mg base (L2.CX P w) k a (spF T K R_gaps_from) ∧ PySem.W.keepIn K (.ref a) = true ∧ mg "gaps_from" = some (.ref a) := ⟨ad 44, (r_gaps_from B).mono h, B.F_gaps_from.elim fun _ F => F.kp, B.g_gaps_from⟩
theorem r_fixed_and_free (B : Base K mg T ad) : EV.FnR P w K mg base (L2.CX P w) 1 (ad 42) (spF T K R_fixed_and_free) := by
  obtain ⟨fd, Fu⟩ := B.F_fixed_and_free
  exact fn_frame (fn_sim (k := 0) (ps := ["numbers", "value", "span"]) (N := ["numbers", "value", "span", "both", "either", "step", "number"]) Fu sc_fixed_and_free (Fu.binds fun _ _ _ _ _ _ us hl => match us, hl with | [_, _, _], _ => rfl) fun cdv A outer s H E hr hp tk =>
    (sims_cons (sim_asg2 (sim_gN 3 sc_fixed_and_free.nd) (sim_gN 4 sc_fixed_and_free.nd) (sim_idx (sim_var 0) (sim_var 1)))
    (sims_cons (sim_for hp rfl (sim_iR2 B.n_range (sim_cons sim_int (sim_cons (sim_add (sim_var 2) sim_int) sim_nil))) (sim_gN 5 sc_fixed_and_free.nd) (sims_cons (sim_set 6 sc_fixed_and_free.nd (sim_idx (sim_var 0) (sim_mod (sim_add (sim_var 1) (sim_var 5)) (sim_len B.n_len (sim_cons (sim_var 0) sim_nil)))))
    (sims_cons (sim_set 3 sc_fixed_and_free.nd (sim_band (sim_var 3) (sim_var 6)))
    (sims_cons (sim_set 4 sc_fixed_and_free.nd (sim_bor (sim_var 4) (sim_var 6)))
    sims_nil))))
    (sims_cons (sim_ret (sim_tup (sim_cons (sim_var 3) (sim_cons (sim_xor (sim_var 3) (sim_var 4)) sim_nil))))
    sims_nil))))
theorem e_fixed_and_free (B : Base K mg T ad) (h : 1 ≤ k) : ∃ a, EV.FnR P w K mg base (L2.CX P w) k a (spF T K R_fixed_and_free) ∧ PySem.W.keepIn K (.ref a) = true ∧ mg "fixed_and_free" = some (.ref a) := ⟨ad 42, (r_fixed_and_free B).mono h, B.F_fixed_and_free.elim fun _ F => F.kp, B.g_fixed_and_free⟩
theorem r_seen_values (B : Base K mg T ad) : EV.FnR P w K mg base (L2.CX P w) 2 (ad 43) (spF T K R_seen_values) := by
  obtain ⟨fd, Fu⟩ := B.F_seen_values
  exact fn_frame (fn_sim (k := 1) (ps := ["numbers", "value", "span"]) (N := ["numbers", "value", "span", "fixed", "free", "either", "at", "number"]) Fu sc_seen_values (Fu.binds fun _ _ _ _ _ _ us hl => match us, hl with | [_, _, _], _ => rfl) fun cdv A outer s H E hr hp tk =>
    (sims_cons (sim_asg (sim_gU rfl (sim_gsCons (sim_gN 3 sc_seen_values.nd) (sim_gsCons (sim_gN 4 sc_seen_values.nd) sim_gsNil))) (sim_call ⟨e_fixed_and_free B (by omega)⟩ tk hr rfl (sim_cons (sim_var 0) (sim_cons (sim_var 1) (sim_cons (sim_var 2) sim_nil)))))
    (sims_cons (sim_set 5 sc_seen_values.nd (sim_bor (sim_var 3) (sim_var 4)))
    (sims_cons (sim_ret (sim_lc [("at", 6), ("number", 7)] rfl sc_seen_values.nd (sim_iEnumA B.n_enumerate (sim_cons (sim_var 0) sim_nil)) (blkOk_by (N := ["numbers", "value", "span", "fixed", "free", "either", "at", "number"]) (sc := defScope s_seen_values) (by decide +kernel)) (fun _ _ _ _ _ => (sim_gU rfl (sim_gsCons (sim_gN 6 sc_seen_values.nd) (sim_gsCons (sim_gN 7 sc_seen_values.nd) sim_gsNil)))) (fun _ _ _ _ _ => (simTs_one (simT_eq hr (sim_bor (sim_var 7) (sim_var 4)) (sim_var 5)))) (fun _ _ _ _ _ => (sim_var 6))))
    sims_nil))))
theorem e_seen_values (B : Base K mg T ad) (h : 2 ≤ k) : ∃ a, EV.FnR P w K mg base (L2.CX P w) k a (spF T K R_seen_values) ∧ PySem.W.keepIn K (.ref a) = true ∧ mg "seen_values" = some (.ref a) := ⟨ad 43, (r_seen_values B).mono h, B.F_seen_values.elim fun _ F => F.kp, B.g_seen_values⟩
theorem r_all_off (B : Base K mg T ad) : EV.FnR P w K mg base (L2.CX P w) 4 (ad 45) (spF T K R_all_off) := by
  obtain ⟨fd, Fu⟩ := B.F_all_off
  exact fn_frame (fn_sim (k := 3) (ps := ["code", "span"]) (N := ["code", "span", "numbers", "gaps", "value", "at"]) Fu sc_all_off (Fu.binds fun _ _ _ _ _ _ us hl => match us, hl with | [_, _], _ => rfl) fun cdv A outer s H E hr hp tk =>
    (sims_cons (sim_set 2 sc_all_off.nd (sim_call ⟨e_numbers_of B (by omega)⟩ tk hr rfl (sim_cons (sim_var 0) sim_nil)))
    (sims_cons (sim_set 3 sc_all_off.nd (sim_call ⟨e_gaps_from B (by omega)⟩ tk hr rfl (sim_cons (sim_lenO 0 ⟨x_Code_len B (by omega)⟩ hr B.n_len (sim_cons (sim_var 0) sim_nil)) (sim_cons (sim_var 1) sim_nil))))
    (sims_cons (sim_ret (sim_lc2 [("value", 4), ("at", 5)] [5] rfl sc_all_off.nd (sim_iR1 B.n_range (sim_cons (sim_len B.n_len (sim_cons (sim_var 2) sim_nil)) sim_nil)) (blkOk_by (N := ["code", "span", "numbers", "gaps", "value", "at"]) (sc := defScope s_all_off) (by decide +kernel)) (fun _ _ _ _ _ => (sim_gN 4 sc_all_off.nd)) (fun _ _ _ _ _ => simTs_nil) (fun _ _ _ _ _ => (sim_iAny (sim_call ⟨e_seen_values B (by omega)⟩ takes0 hr rfl (sim_cons (sim_var 2) (sim_cons (sim_var 4) (sim_cons (sim_var 1) sim_nil)))))) (fun _ _ _ _ _ => (sim_gN 5 sc_all_off.nd)) (fun _ _ _ _ _ => (simTs_one (simT_gt (sim_idx (sim_var 3) (sim_sub (sim_var 5) (sim_var 4))) sim_int))) (fun _ _ _ _ _ => (sim_tup (sim_cons (sim_idx (sim_var 3) (sim_sub (sim_var 5) (sim_var 4))) (sim_cons (sim_var 4) (sim_cons (sim_var 5) sim_nil)))))))
    sims_nil))))
theorem e_all_off (B : Base K mg T ad) (h : 4 ≤ k) : ∃ a, EV.FnR P w K mg base (L2.CX P w) k a (spF T K R_all_off) ∧ PySem.W.keepIn K (.ref a) = true ∧ mg "all_off" = some (.ref a) := ⟨ad 45, (r_all_off B).mono h, B.F_all_off.elim fun _ F => F.kp, B.g_all_off⟩
theorem r_most_off (B : Base K mg T ad) : EV.FnR P w K mg base (L2.CX P w) 5 (ad 46) (spF T K R_most_off) := by
  obtain ⟨fd, Fu⟩ := B.F_most_off
  exact fn_frame (fn_sim (k := 4) (ps := ["code", "span"]) (N := ["code", "span", "by", "_"]) Fu sc_most_off (Fu.binds fun _ _ _ _ _ _ us hl => match us, hl with | [_, _], _ => rfl) fun cdv A outer s H E hr hp tk =>
    (sims_cons (sim_ret (sim_maxDf hr rfl B.n_max (sim_lc [("by", 2), ("_", 3)] rfl sc_most_off.nd (sim_iAny (sim_call ⟨e_all_off B (by omega)⟩ tk hr rfl (sim_cons (sim_var 0) (sim_cons (sim_var 1) sim_nil)))) (blkOk_by (N := ["code", "span", "by", "_"]) (sc := defScope s_most_off) (by decide +kernel)) (fun _ _ _ _ _ => (sim_gU rfl (sim_gsCons (sim_gN 2 sc_most_off.nd) (sim_gsCons (sim_gN 3 sc_most_off.nd) (sim_gsCons (sim_gN 3 sc_most_off.nd) sim_gsNil))))) (fun _ _ _ _ _ => simTs_nil) (fun _ _ _ _ _ => (sim_var 2))) sim_int))
    sims_nil))
theorem e_most_off (B : Base K mg T ad) (h : 5 ≤ k) : ∃ a, EV.FnR P w K mg base (L2.CX P w) k a (spF T K R_most_off) ∧ PySem.W.keepIn K (.ref a) = true ∧ mg "most_off" = some (.ref a) := ⟨ad 46, (r_most_off B).mono h, B.F_most_off.elim fun _ F => F.kp, B.g_most_off⟩
theorem bo_off (B : Base K mg T ad) : BodyOk P w K mg base T 5 "off" s_off (ad 47) ["code", "span"] b_off := fun cdv A outer s H E hr hp tk =>
    (sims_cons (sim_expr (sim_call ⟨e_check_code B (by omega)⟩ tk hr rfl (sim_cons (sim_var 0) sim_nil)))
    (sims_cons (sim_expr (sim_call ⟨e_check_span B (by omega)⟩ tk hr rfl (sim_cons (sim_var 1) (sim_cons (sim_glob B.k_MOST_SPAN) sim_nil))))
    (sims_cons (sim_ret (sim_call ⟨e_most_off B (by omega)⟩ tk hr rfl (sim_cons (sim_var 0) (sim_cons (sim_var 1) sim_nil))))
    sims_nil)))
theorem ra_off (B : Base K mg T ad) : ∃ fd, Fun K "off" "off" s_off (ad 47) fd ∧ EV.FnRA P w K mg base (L2.CX P w) 6 (ad 47) fd ["code", "span"] (spF T K R_off) := by
  obtain ⟨fd, Fu⟩ := B.F_off
  exact ⟨fd, Fu, fn_frameA (fn_simA (k := 5) (ps := ["code", "span"]) (N := ["code", "span"]) Fu sc_off (bo_off B))⟩
theorem r_off (B : Base K mg T ad) : EV.FnR P w K mg base (L2.CX P w) 6 (ad 47) (spF T K R_off) := by
  obtain ⟨fd, Fu⟩ := B.F_off
  exact fn_frame (fn_sim (k := 5) (ps := ["code", "span"]) (N := ["code", "span"]) Fu sc_off (Fu.binds fun _ _ _ _ _ _ us hl => match us, hl with | [_, _], _ => rfl) (bo_off B))
theorem K_off_25115e84 (B : Base K mg T ad) (h : 6 ≤ k) : ∃ a fd ps, EV.FnRA P w K mg base (L2.CX P w) k a fd ps (spF T K R_off) ∧ PySem.W.keepIn K (.ref a) = true ∧ mg "off" = some (.ref a) ∧ KwB fd ps ["span", "code"] [1, 0] := by
  obtain ⟨fd, Fu, Fa⟩ := ra_off B
  exact ⟨ad 47, fd, _, Fa.mono h, Fu.kp, B.g_off, EV.Fun.kw Fu fun _ _ _ _ _ _ ws hl => match ws, hl with | [_, _], _ => ⟨rfl, rfl⟩⟩
theorem e_off (B : Base K mg T ad) (h : 6 ≤ k) : ∃ a, EV.FnR P w K mg base (L2.CX P w) k a (spF T K R_off) ∧ PySem.W.keepIn K (.ref a) = true ∧ mg "off" = some (.ref a) := ⟨ad 47, (r_off B).mono h, B.F_off.elim fun _ F => F.kp, B.g_off⟩
theorem bo_far_off (B : Base K mg T ad) : BodyOk P w K mg base T 4 "far_off" s_far_off (ad 48) ["code", "span", "rows", "by", "_", "most", "value", "at"] b_far_off := fun cdv A outer s H E hr hp tk =>
    (sims_cons (sim_expr (sim_call ⟨e_check_code B (by omega)⟩ tk hr rfl (sim_cons (sim_var 0) sim_nil)))
    (sims_cons (sim_expr (sim_call ⟨e_check_span B (by omega)⟩ tk hr rfl (sim_cons (sim_var 1) (sim_cons (sim_glob B.k_MOST_SPAN) sim_nil))))
    (sims_cons (sim_set 2 sc_far_off.nd (sim_call ⟨e_all_off B (by omega)⟩ tk hr rfl (sim_cons (sim_var 0) (sim_cons (sim_var 1) sim_nil))))
    (sims_cons (sim_set 5 sc_far_off.nd (sim_maxDf hr rfl B.n_max (sim_lc [("by", 3), ("_", 4)] rfl sc_far_off.nd (sim_iAny (sim_var 2)) (blkOk_by (N := ["code", "span", "rows", "by", "_", "most", "value", "at"]) (sc := defScope s_far_off) (by decide +kernel)) (fun _ _ _ _ _ => (sim_gU rfl (sim_gsCons (sim_gN 3 sc_far_off.nd) (sim_gsCons (sim_gN 4 sc_far_off.nd) (sim_gsCons (sim_gN 4 sc_far_off.nd) sim_gsNil))))) (fun _ _ _ _ _ => simTs_nil) (fun _ _ _ _ _ => (sim_var 3))) sim_int))
    (sims_cons (sim_ret (sim_minDf hr rfl B.n_min (sim_lc [("by", 3), ("value", 6), ("at", 7)] rfl sc_far_off.nd (sim_iAny (sim_var 2)) (blkOk_by (N := ["code", "span", "rows", "by", "_", "most", "value", "at"]) (sc := defScope s_far_off) (by decide +kernel)) (fun _ _ _ _ _ => (sim_gU rfl (sim_gsCons (sim_gN 3 sc_far_off.nd) (sim_gsCons (sim_gN 6 sc_far_off.nd) (sim_gsCons (sim_gN 7 sc_far_off.nd) sim_gsNil))))) (fun _ _ _ _ _ => (simTs_one (simT_eq hr (sim_var 3) (sim_var 5)))) (fun _ _ _ _ _ => (sim_tup (sim_cons (sim_var 6) (sim_cons (sim_idx (sim_prop 0 ⟨p_Code_words B (by omega)⟩ B.c_Code hr (sim_var 0)) (sim_var 7)) sim_nil))))) sim_non))
    sims_nil)))))
theorem ra_far_off (B : Base K mg T ad) : ∃ fd, Fun K "far_off" "far_off" s_far_off (ad 48) fd ∧ EV.FnRA P w K mg base (L2.CX P w) 5 (ad 48) fd ["code", "span"] (spF T K R_far_off) := by
  obtain ⟨fd, Fu⟩ := B.F_far_off
  exact ⟨fd, Fu, fn_frameA (fn_simA (k := 4) (ps := ["code", "span"]) (N := ["code", "span", "rows", "by", "_", "most", "value", "at"]) Fu sc_far_off (bo_far_off B))⟩
theorem r_far_off (B : Base K mg T ad) : EV.FnR P w K mg base (L2.CX P w) 5 (ad 48) (spF T K R_far_off) := by
  obtain ⟨fd, Fu⟩ := B.F_far_off
  exact fn_frame (fn_sim (k := 4) (ps := ["code", "span"]) (N := ["code", "span", "rows", "by", "_", "most", "value", "at"]) Fu sc_far_off (Fu.binds fun _ _ _ _ _ _ us hl => match us, hl with | [_, _], _ => rfl) (bo_far_off B))
theorem K_far_off_25115e84 (B : Base K mg T ad) (h : 5 ≤ k) : ∃ a fd ps, EV.FnRA P w K mg base (L2.CX P w) k a fd ps (spF T K R_far_off) ∧ PySem.W.keepIn K (.ref a) = true ∧ mg "far_off" = some (.ref a) ∧ KwB fd ps ["span", "code"] [1, 0] := by
  obtain ⟨fd, Fu, Fa⟩ := ra_far_off B
  exact ⟨ad 48, fd, _, Fa.mono h, Fu.kp, B.g_far_off, EV.Fun.kw Fu fun _ _ _ _ _ _ ws hl => match ws, hl with | [_, _], _ => ⟨rfl, rfl⟩⟩
theorem e_far_off (B : Base K mg T ad) (h : 5 ≤ k) : ∃ a, EV.FnR P w K mg base (L2.CX P w) k a (spF T K R_far_off) ∧ PySem.W.keepIn K (.ref a) = true ∧ mg "far_off" = some (.ref a) := ⟨ad 48, (r_far_off B).mono h, B.F_far_off.elim fun _ F => F.kp, B.g_far_off⟩
theorem r_holes_at (B : Base K mg T ad) : EV.FnR P w K mg base (L2.CX P w) 3 (ad 52) (spF T K R_holes_at) := by
  obtain ⟨fd, Fu⟩ := B.F_holes_at
  exact fn_frame (fn_sim (k := 2) (ps := ["numbers", "value", "span"]) (N := ["numbers", "value", "span", "_", "free"]) Fu sc_holes_at (Fu.binds fun _ _ _ _ _ _ us hl => match us, hl with | [_, _, _], _ => rfl) fun cdv A outer s H E hr hp tk =>
    (sims_cons (sim_asg (sim_gU rfl (sim_gsCons (sim_gN 3 sc_holes_at.nd) (sim_gsCons (sim_gN 4 sc_holes_at.nd) sim_gsNil))) (sim_call ⟨e_fixed_and_free B (by omega)⟩ tk hr rfl (sim_cons (sim_var 0) (sim_cons (sim_var 1) (sim_cons (sim_var 2) sim_nil)))))
    (sims_cons (sim_ret (sim_sub (sim_idxG B.t_MANY (sim_var 4)) (sim_len B.n_len (sim_cons (sim_call ⟨e_seen_values B (by omega)⟩ tk hr rfl (sim_cons (sim_var 0) (sim_cons (sim_var 1) (sim_cons (sim_var 2) sim_nil)))) sim_nil))))
    sims_nil)))
theorem e_holes_at (B : Base K mg T ad) (h : 3 ≤ k) : ∃ a, EV.FnR P w K mg base (L2.CX P w) k a (spF T K R_holes_at) ∧ PySem.W.keepIn K (.ref a) = true ∧ mg "holes_at" = some (.ref a) := ⟨ad 52, (r_holes_at B).mono h, B.F_holes_at.elim fun _ F => F.kp, B.g_holes_at⟩
theorem bo_holes (B : Base K mg T ad) : BodyOk P w K mg base T 3 "holes" s_holes (ad 53) ["code", "span", "numbers", "value"] b_holes := fun cdv A outer s H E hr hp tk =>
    (sims_cons (sim_expr (sim_call ⟨e_check_code B (by omega)⟩ tk hr rfl (sim_cons (sim_var 0) sim_nil)))
    (sims_cons (sim_expr (sim_call ⟨e_check_span B (by omega)⟩ tk hr rfl (sim_cons (sim_var 1) (sim_cons (sim_glob B.k_MOST_SPAN) sim_nil))))
    (sims_cons (sim_set 2 sc_holes.nd (sim_call ⟨e_numbers_of B (by omega)⟩ tk hr rfl (sim_cons (sim_var 0) sim_nil)))
    (sims_cons (sim_ret (sim_sum rfl B.n_sum (sim_cons (sim_lc [("value", 3)] rfl sc_holes.nd (sim_iR1 B.n_range (sim_cons (sim_len B.n_len (sim_cons (sim_var 2) sim_nil)) sim_nil)) (blkOk_by (N := ["code", "span", "numbers", "value"]) (sc := defScope s_holes) (by decide +kernel)) (fun _ _ _ _ _ => (sim_gN 3 sc_holes.nd)) (fun _ _ _ _ _ => simTs_nil) (fun _ _ _ _ _ => (sim_call ⟨e_holes_at B (by omega)⟩ takes0 hr rfl (sim_cons (sim_var 2) (sim_cons (sim_var 3) (sim_cons (sim_var 1) sim_nil)))))) sim_nil)))
    sims_nil))))
theorem ra_holes (B : Base K mg T ad) : ∃ fd, Fun K "holes" "holes" s_holes (ad 53) fd ∧ EV.FnRA P w K mg base (L2.CX P w) 4 (ad 53) fd ["code", "span"] (spF T K R_holes) := by
  obtain ⟨fd, Fu⟩ := B.F_holes
  exact ⟨fd, Fu, fn_frameA (fn_simA (k := 3) (ps := ["code", "span"]) (N := ["code", "span", "numbers", "value"]) Fu sc_holes (bo_holes B))⟩
theorem r_holes (B : Base K mg T ad) : EV.FnR P w K mg base (L2.CX P w) 4 (ad 53) (spF T K R_holes) := by
  obtain ⟨fd, Fu⟩ := B.F_holes
  exact fn_frame (fn_sim (k := 3) (ps := ["code", "span"]) (N := ["code", "span", "numbers", "value"]) Fu sc_holes (Fu.binds fun _ _ _ _ _ _ us hl => match us, hl with | [_, _], _ => rfl) (bo_holes B))
theorem K_holes_25115e84 (B : Base K mg T ad) (h : 4 ≤ k) : ∃ a fd ps, EV.FnRA P w K mg base (L2.CX P w) k a fd ps (spF T K R_holes) ∧ PySem.W.keepIn K (.ref a) = true ∧ mg "holes" = some (.ref a) ∧ KwB fd ps ["span", "code"] [1, 0] := by
  obtain ⟨fd, Fu, Fa⟩ := ra_holes B
  exact ⟨ad 53, fd, _, Fa.mono h, Fu.kp, B.g_holes, EV.Fun.kw Fu fun _ _ _ _ _ _ ws hl => match ws, hl with | [_, _], _ => ⟨rfl, rfl⟩⟩
theorem e_holes (B : Base K mg T ad) (h : 4 ≤ k) : ∃ a, EV.FnR P w K mg base (L2.CX P w) k a (spF T K R_holes) ∧ PySem.W.keepIn K (.ref a) = true ∧ mg "holes" = some (.ref a) := ⟨ad 53, (r_holes B).mono h, B.F_holes.elim fun _ F => F.kp, B.g_holes⟩
theorem r_Code_contains (B : Base K mg T ad) : EV.FnR P w K mg base (L2.CX P w) 4 (ad 11) (spF T K R_Code_contains) := by
  obtain ⟨fd, Fu⟩ := B.F_Code_contains
  exact fn_frame (fn_sim (k := 3) (ps := ["self", "x"]) (N := ["self", "x"]) Fu sc_Code_contains (Fu.binds fun _ _ _ _ _ _ us hl => match us, hl with | [_, _], _ => rfl) fun cdv A outer s H E hr hp tk =>
    (sims_cons (sim_ret (sim_and (sim_call ⟨e_is_word B (by omega)⟩ tk hr rfl (sim_cons (sim_var 1) (sim_cons (sim_prop 0 ⟨p_Code_bits B (by omega)⟩ B.c_Code hr (sim_var 0)) sim_nil))) (sim_one (sim_inDT hr (sim_var 1) (sim_fld 0 1 B.c_Code (by rw [B.nm_Code]; rfl) (sim_var 0))))))
    sims_nil))
theorem x_Code_contains (B : Base K mg T ad) (h : 4 + 1 ≤ k) : ∃ j a, j + 1 ≤ k ∧ PySem.W.findIn K (.ref (T.cls 0)) "__contains__" = some (some (.ref a)) ∧ PySem.W.isFn K (.ref a) = true ∧ PySem.W.fnIn K a = true ∧ EV.FnR P w K mg base (L2.CX P w) j a (spF T K R_Code_contains) := ⟨4, ad 11, h, B.s_Code_contains.1, B.s_Code_contains.2.1, B.s_Code_contains.2.2, (r_Code_contains B)⟩
theorem r_off_by (B : Base K mg T ad) : EV.FnR P w K mg base (L2.CX P w) 4 (ad 49) (spF T K R_off_by) := by
  obtain ⟨fd, Fu⟩ := B.F_off_by
  exact fn_frame (fn_sim (k := 3) (ps := ["code", "span", "value", "at"]) (N := ["code", "span", "value", "at", "gaps"]) Fu sc_off_by (Fu.binds fun _ _ _ _ _ _ us hl => match us, hl with | [_, _, _, _], _ => rfl) fun cdv A outer s H E hr hp tk =>
    (sims_cons (sim_ifS (simT_notIn hr (sim_var 3) (sim_call ⟨e_seen_values B (by omega)⟩ tk hr rfl (sim_cons (sim_call ⟨e_numbers_of B (by omega)⟩ tk hr rfl (sim_cons (sim_var 0) sim_nil)) (sim_cons (sim_var 2) (sim_cons (sim_var 1) sim_nil))))) (sims_cons (sim_ret sim_int)
    sims_nil) sims_nil)
    (sims_cons (sim_set 4 sc_off_by.nd (sim_call ⟨e_gaps_from B (by omega)⟩ tk hr rfl (sim_cons (sim_lenO 0 ⟨x_Code_len B (by omega)⟩ hr B.n_len (sim_cons (sim_var 0) sim_nil)) (sim_cons (sim_var 1) sim_nil))))
    (sims_cons (sim_ret (sim_idx (sim_var 4) (sim_sub (sim_var 3) (sim_var 2))))
    sims_nil))))
theorem e_off_by (B : Base K mg T ad) (h : 4 ≤ k) : ∃ a, EV.FnR P w K mg base (L2.CX P w) k a (spF T K R_off_by) ∧ PySem.W.keepIn K (.ref a) = true ∧ mg "off_by" = some (.ref a) := ⟨ad 49, (r_off_by B).mono h, B.F_off_by.elim fun _ F => F.kp, B.g_off_by⟩
theorem bo_shows_off (B : Base K mg T ad) : BodyOk P w K mg base T 5 "shows_off" s_shows_off (ad 50) ["code", "span", "thing", "value", "word", "by"] b_shows_off := fun cdv A outer s H E hr hp tk =>
    (sims_cons (sim_expr (sim_call ⟨e_check_code B (by omega)⟩ tk hr rfl (sim_cons (sim_var 0) sim_nil)))
    (sims_cons (sim_expr (sim_call ⟨e_check_span B (by omega)⟩ tk hr rfl (sim_cons (sim_var 1) (sim_cons (sim_glob B.k_MOST_SPAN) sim_nil))))
    (sims_cons (sim_ifS (simT_isN (sim_var 2)) (sims_cons (sim_ret (sim_eq hr (sim_call ⟨e_most_off B (by omega)⟩ tk hr rfl (sim_cons (sim_var 0) (sim_cons (sim_var 1) sim_nil))) sim_int))
    sims_nil) sims_nil)
    (sims_cons (sim_ifS (simT_W (simW_or (simT_not (sim_tV (sim_isi B.n_isinstance B.n_tuple (by first | rfl | decide +kernel) (sim_var 2)))) (simW_or1 (simT_ne hr (sim_len B.n_len (sim_cons (sim_var 2) sim_nil)) sim_int)))) (sims_cons (sim_ret sim_bl)
    sims_nil) sims_nil)
    (sims_cons (sim_asg (sim_gU rfl (sim_gsCons (sim_gN 3 sc_shows_off.nd) (sim_gsCons (sim_gN 4 sc_shows_off.nd) sim_gsNil))) (sim_var 2))
    (sims_cons (sim_ifS (simT_W (simW_or (simT_not (sim_tV (sim_call ⟨e_is_between B (by omega)⟩ tk hr rfl (sim_cons (sim_var 3) (sim_cons sim_int (sim_cons (sim_sub (sim_lenO 0 ⟨x_Code_len B (by omega)⟩ hr B.n_len (sim_cons (sim_var 0) sim_nil)) sim_int) sim_nil)))))) (simW_or1 (simT_notInO ⟨x_Code_contains B (by omega)⟩ hr (sim_var 4) (sim_var 0))))) (sims_cons (sim_ret sim_bl)
    sims_nil) sims_nil)
    (sims_cons (sim_set 5 sc_shows_off.nd (sim_call ⟨e_off_by B (by omega)⟩ tk hr rfl (sim_cons (sim_var 0) (sim_cons (sim_var 1) (sim_cons (sim_var 3) (sim_cons (sim_subO ⟨x_Code_getitem B (by omega)⟩ tk hr (sim_var 0) (sim_var 4)) sim_nil))))))
    (sims_cons (sim_ret (sim_and (sim_gt (sim_var 5) sim_int) (sim_one (sim_eq hr (sim_var 5) (sim_call ⟨e_most_off B (by omega)⟩ tk hr rfl (sim_cons (sim_var 0) (sim_cons (sim_var 1) sim_nil)))))))
    sims_nil))))))))
theorem ra_shows_off (B : Base K mg T ad) : ∃ fd, Fun K "shows_off" "shows_off" s_shows_off (ad 50) fd ∧ EV.FnRA P w K mg base (L2.CX P w) 6 (ad 50) fd ["code", "span", "thing"] (spF T K R_shows_off) := by
  obtain ⟨fd, Fu⟩ := B.F_shows_off
  exact ⟨fd, Fu, fn_frameA (fn_simA (k := 5) (ps := ["code", "span", "thing"]) (N := ["code", "span", "thing", "value", "word", "by"]) Fu sc_shows_off (bo_shows_off B))⟩
theorem r_shows_off (B : Base K mg T ad) : EV.FnR P w K mg base (L2.CX P w) 6 (ad 50) (spF T K R_shows_off) := by
  obtain ⟨fd, Fu⟩ := B.F_shows_off
  exact fn_frame (fn_sim (k := 5) (ps := ["code", "span", "thing"]) (N := ["code", "span", "thing", "value", "word", "by"]) Fu sc_shows_off (Fu.binds fun _ _ _ _ _ _ us hl => match us, hl with | [_, _, _], _ => rfl) (bo_shows_off B))
theorem K_shows_off_f9cf7aa2 (B : Base K mg T ad) (h : 6 ≤ k) : ∃ a fd ps, EV.FnRA P w K mg base (L2.CX P w) k a fd ps (spF T K R_shows_off) ∧ PySem.W.keepIn K (.ref a) = true ∧ mg "shows_off" = some (.ref a) ∧ KwB fd ps ["thing", "span", "code"] [2, 1, 0] := by
  obtain ⟨fd, Fu, Fa⟩ := ra_shows_off B
  exact ⟨ad 50, fd, _, Fa.mono h, Fu.kp, B.g_shows_off, EV.Fun.kw Fu fun _ _ _ _ _ _ ws hl => match ws, hl with | [_, _, _], _ => ⟨rfl, rfl⟩⟩
theorem e_shows_off (B : Base K mg T ad) (h : 6 ≤ k) : ∃ a, EV.FnR P w K mg base (L2.CX P w) k a (spF T K R_shows_off) ∧ PySem.W.keepIn K (.ref a) = true ∧ mg "shows_off" = some (.ref a) := ⟨ad 50, (r_shows_off B).mono h, B.F_shows_off.elim fun _ F => F.kp, B.g_shows_off⟩
theorem bo_tolerance (B : Base K mg T ad) : BodyOk P w K mg base T 5 "tolerance" s_tolerance (ad 51) ["code", "span"] b_tolerance := fun cdv A outer s H E hr hp tk =>
    (sims_cons (sim_expr (sim_call ⟨e_check_code B (by omega)⟩ tk hr rfl (sim_cons (sim_var 0) sim_nil)))
    (sims_cons (sim_for hp rfl (sim_iR2 B.n_range (sim_cons sim_int (sim_cons (sim_add (sim_glob B.k_MOST_SPAN) sim_int) sim_nil))) (sim_gN 1 sc_tolerance.nd) (sims_cons (sim_ifS (simT_gt (sim_call ⟨e_most_off B (by omega)⟩ tk hr rfl (sim_cons (sim_var 0) (sim_cons (sim_var 1) sim_nil))) sim_int) (sims_cons (sim_ret (sim_sub (sim_var 1) sim_int))
    sims_nil) sims_nil)
    sims_nil))
    (sims_cons (sim_ret (sim_glob B.k_MOST_SPAN))
    sims_nil)))
theorem ra_tolerance (B : Base K mg T ad) : ∃ fd, Fun K "tolerance" "tolerance" s_tolerance (ad 51) fd ∧ EV.FnRA P w K mg base (L2.CX P w) 6 (ad 51) fd ["code"] (spF T K R_tolerance) := by
  obtain ⟨fd, Fu⟩ := B.F_tolerance
  exact ⟨fd, Fu, fn_frameA (fn_simA (k := 5) (ps := ["code"]) (N := ["code", "span"]) Fu sc_tolerance (bo_tolerance B))⟩
theorem r_tolerance (B : Base K mg T ad) : EV.FnR P w K mg base (L2.CX P w) 6 (ad 51) (spF T K R_tolerance) := by
  obtain ⟨fd, Fu⟩ := B.F_tolerance
  exact fn_frame (fn_sim (k := 5) (ps := ["code"]) (N := ["code", "span"]) Fu sc_tolerance (Fu.binds fun _ _ _ _ _ _ us hl => match us, hl with | [_], _ => rfl) (bo_tolerance B))
theorem K_tolerance_c1336794 (B : Base K mg T ad) (h : 6 ≤ k) : ∃ a fd ps, EV.FnRA P w K mg base (L2.CX P w) k a fd ps (spF T K R_tolerance) ∧ PySem.W.keepIn K (.ref a) = true ∧ mg "tolerance" = some (.ref a) ∧ KwB fd ps ["code"] [0] := by
  obtain ⟨fd, Fu, Fa⟩ := ra_tolerance B
  exact ⟨ad 51, fd, _, Fa.mono h, Fu.kp, B.g_tolerance, EV.Fun.kw Fu fun _ _ _ _ _ _ ws hl => match ws, hl with | [_], _ => ⟨rfl, rfl⟩⟩
theorem r_law_same (B : Base K mg T ad) : EV.FnR P w K mg base (L2.CX P w) 1 (ad 57) (spF T K R_law_same) := by
  obtain ⟨fd, Fu⟩ := B.F_law_same
  exact fn_frame (fn_sim (k := 0) (ps := ["_law_found", "_law_due"]) (N := ["_law_found", "_law_due"]) Fu sc_law_same (Fu.binds fun _ _ _ _ _ _ us hl => match us, hl with | [_, _], _ => rfl) fun cdv A outer s H E hr hp tk =>
    (sims_cons (sim_ret (sim_eq hr (sim_repr hr B.n_repr (sim_cons (sim_var 0) sim_nil)) (sim_repr hr B.n_repr (sim_cons (sim_var 1) sim_nil))))
    sims_nil))
theorem e_law_same (B : Base K mg T ad) (h : 1 ≤ k) : ∃ a, EV.FnR P w K mg base (L2.CX P w) k a (spF T K R_law_same) ∧ PySem.W.keepIn K (.ref a) = true ∧ mg "_law_same" = some (.ref a) := ⟨ad 57, (r_law_same B).mono h, B.F_law_same.elim fun _ F => F.kp, B.g_law_same⟩
theorem r_law_right (B : Base K mg T ad) : EV.FnR P w K mg base (L2.CX P w) 10 (ad 59) (spF T K R_law_right_k15) := by
  obtain ⟨fd, Fu⟩ := B.F_law_right
  exact fn_frame (fn_sim (k := 9) (ps := ["_law_at", "_law_far", "_law_ways", "_law_spots"]) (N := ["_law_at", "_law_far", "_law_ways", "_law_spots", "_law_made", "_law_second", "_law_told", "_law_due"]) Fu sc_law_right (Fu.binds fun _ _ _ _ _ _ us hl => match us, hl with | [_, _, _, _], _ => rfl) fun cdv A outer s H E hr hp tk =>
    (sims_cons (sim_par 4 5 rfl sc_law_right.nd (sim_cons (sim_make 0 false ⟨m_Code_init B (by omega)⟩ tk hr rfl (sim_cons (sim_tup (sim_cons sim_int (sim_cons sim_int sim_nil))) (sim_cons (sim_tup (sim_cons sim_int (sim_cons sim_int sim_nil))) (sim_cons (sim_tup (sim_cons sim_int (sim_cons sim_int sim_nil))) (sim_cons (sim_tup (sim_cons sim_int (sim_cons sim_int sim_nil))) sim_nil))))) (sim_cons (sim_make 0 false ⟨m_Code_init B (by omega)⟩ tk hr rfl (sim_cons (sim_tup (sim_cons sim_int (sim_cons sim_int sim_nil))) (sim_cons (sim_tup (sim_cons sim_int (sim_cons sim_int sim_nil))) (sim_cons (sim_tup (sim_cons sim_int (sim_cons sim_int sim_nil))) (sim_cons (sim_tup (sim_cons sim_int (sim_cons sim_int sim_nil))) sim_nil))))) sim_nil)))
    (sims_cons (sim_set 6 sc_law_right.nd (sim_lst (sim_cons (sim_callOK 0 (ks := ["value"]) ⟨O_Code_call_2063c160 B (by omega)⟩ tk hr (sim_var 4) (simk_cons (sim_var 0) simk_nil)) (sim_cons (sim_subO ⟨x_Code_getitem B (by omega)⟩ tk hr (sim_var 4) (sim_idx (sim_prop 0 ⟨p_Code_words B (by omega)⟩ B.c_Code hr (sim_var 4)) (sim_var 0))) (sim_cons (sim_prop 0 ⟨p_Code_words B (by omega)⟩ B.c_Code hr (sim_cmK 0 (ks := ["text"]) ⟨C_Code_read_1cb251ec B (by omega), B.c_Code_read.2.1, B.c_Code_read.2.2⟩ tk hr rfl (simk_cons (sim_methO0 0 ⟨h_Code_text B (by omega), by rw [B.nm_Code]; decide⟩ B.c_Code tk hr (sim_var 4)) simk_nil))) (sim_cons (sim_prop 0 ⟨p_Code_words B (by omega)⟩ B.c_Code hr (sim_callK (ks := ["by", "code"]) ⟨K_turned_c2374418 B (by omega)⟩ tk hr rfl (simk_cons (sim_var 0) (simk_cons (sim_var 4) simk_nil)))) sim_nil))))))
    (sims_cons (sim_set 6 sc_law_right.nd (sim_add (sim_var 6) (sim_lst (sim_cons (sim_prop 0 ⟨p_Code_words B (by omega)⟩ B.c_Code hr (sim_callK (ks := ["order", "code"]) ⟨K_renamed_9e301b2a B (by omega)⟩ tk hr rfl (simk_cons (sim_var 2) (simk_cons (sim_var 4) simk_nil)))) (sim_cons (sim_prop 0 ⟨p_Code_words B (by omega)⟩ B.c_Code hr (sim_callK (ks := ["places", "code"]) ⟨K_flipped_5053aae7 B (by omega)⟩ tk hr rfl (simk_cons (sim_var 3) (simk_cons (sim_var 4) simk_nil)))) sim_nil)))))
    (sims_cons (sim_set 6 sc_law_right.nd (sim_add (sim_var 6) (sim_lst (sim_cons (sim_callK (ks := ["other", "one"]) ⟨K_alike_889e3945 B (by omega)⟩ tk hr rfl (simk_cons (sim_var 5) (simk_cons (sim_var 4) simk_nil))) (sim_cons (sim_callK (ks := ["other", "one"]) ⟨K_alike_889e3945 B (by omega)⟩ tk hr rfl (simk_cons (sim_var 4) (simk_cons (sim_call ⟨e_turned B (by omega)⟩ tk hr rfl (sim_cons (sim_var 4) (sim_cons (sim_var 0) sim_nil))) simk_nil))) (sim_cons (sim_callK (ks := ["value", "code"]) ⟨K_mixes_8b4cb2e7 B (by omega)⟩ tk hr rfl (simk_cons (sim_var 0) (simk_cons (sim_var 4) simk_nil))) sim_nil))))))
    (sims_cons (sim_set 6 sc_law_right.nd (sim_add (sim_var 6) (sim_lst (sim_cons (sim_callK (ks := ["value", "code"]) ⟨K_changes_8b4cb2e7 B (by omega)⟩ tk hr rfl (simk_cons (sim_var 0) (simk_cons (sim_var 4) simk_nil))) (sim_cons (sim_callK (ks := ["code"]) ⟨K_is_single_c1336794 B (by omega)⟩ tk hr rfl (simk_cons (sim_var 4) simk_nil)) (sim_cons (sim_callK (ks := ["span", "value", "code"]) ⟨K_readings_66d86df4 B (by omega)⟩ tk hr rfl (simk_cons (sim_var 1) (simk_cons (sim_var 0) (simk_cons (sim_var 4) simk_nil)))) sim_nil))))))
    (sims_cons (sim_set 6 sc_law_right.nd (sim_add (sim_var 6) (sim_lst (sim_cons (sim_callK (ks := ["span", "code"]) ⟨K_off_25115e84 B (by omega)⟩ tk hr rfl (simk_cons (sim_var 1) (simk_cons (sim_var 4) simk_nil))) (sim_cons (sim_callK (ks := ["span", "code"]) ⟨K_far_off_25115e84 B (by omega)⟩ tk hr rfl (simk_cons (sim_var 1) (simk_cons (sim_var 4) simk_nil))) (sim_cons (sim_callK (ks := ["span", "code"]) ⟨K_holes_25115e84 B (by omega)⟩ tk hr rfl (simk_cons (sim_var 1) (simk_cons (sim_var 4) simk_nil))) sim_nil))))))
    (sims_cons (sim_set 6 sc_law_right.nd (sim_add (sim_var 6) (sim_lst (sim_cons (sim_callK (ks := ["thing", "span", "code"]) ⟨K_shows_off_f9cf7aa2 B (by omega)⟩ tk hr rfl (simk_cons sim_non (simk_cons (sim_var 1) (simk_cons (sim_var 4) simk_nil)))) (sim_cons (sim_callK (ks := ["code"]) ⟨K_tolerance_c1336794 B (by omega)⟩ tk hr rfl (simk_cons (sim_var 5) simk_nil)) sim_nil)))))
    (sims_cons (sim_set 7 sc_law_right.nd (sim_lst (sim_cons (sim_callO 0 ⟨o_Code_call B (by omega)⟩ tk hr (sim_var 4) (sim_cons (sim_var 0) sim_nil)) (sim_cons (sim_var 0) (sim_cons (sim_prop 0 ⟨p_Code_words B (by omega)⟩ B.c_Code hr (sim_var 4)) (sim_cons (sim_prop 0 ⟨p_Code_words B (by omega)⟩ B.c_Code hr (sim_call ⟨e_turned B (by omega)⟩ tk hr rfl (sim_cons (sim_var 4) (sim_cons (sim_var 0) sim_nil)))) (sim_cons (sim_prop 0 ⟨p_Code_words B (by omega)⟩ B.c_Code hr (sim_call ⟨e_renamed B (by omega)⟩ tk hr rfl (sim_cons (sim_var 4) (sim_cons (sim_var 2) sim_nil)))) (sim_cons (sim_prop 0 ⟨p_Code_words B (by omega)⟩ B.c_Code hr (sim_call ⟨e_flipped B (by omega)⟩ tk hr rfl (sim_cons (sim_var 4) (sim_cons (sim_var 3) sim_nil)))) sim_nil))))))))
    (sims_cons (sim_set 7 sc_law_right.nd (sim_add (sim_var 7) (sim_lst (sim_cons (sim_call ⟨e_alike B (by omega)⟩ tk hr rfl (sim_cons (sim_var 4) (sim_cons (sim_var 5) sim_nil))) (sim_cons (sim_call ⟨e_alike B (by omega)⟩ tk hr rfl (sim_cons (sim_call ⟨e_turned B (by omega)⟩ tk hr rfl (sim_cons (sim_var 4) (sim_cons (sim_var 0) sim_nil))) (sim_cons (sim_var 4) sim_nil))) (sim_cons (sim_call ⟨e_mixes B (by omega)⟩ tk hr rfl (sim_cons (sim_var 4) (sim_cons (sim_var 0) sim_nil))) (sim_cons (sim_call ⟨e_changes B (by omega)⟩ tk hr rfl (sim_cons (sim_var 4) (sim_cons (sim_var 0) sim_nil))) sim_nil)))))))
    (sims_cons (sim_set 7 sc_law_right.nd (sim_add (sim_var 7) (sim_lst (sim_cons (sim_call ⟨e_is_single B (by omega)⟩ tk hr rfl (sim_cons (sim_var 4) sim_nil)) (sim_cons (sim_call ⟨e_readings B (by omega)⟩ tk hr rfl (sim_cons (sim_var 4) (sim_cons (sim_var 0) (sim_cons (sim_var 1) sim_nil)))) (sim_cons (sim_call ⟨e_off B (by omega)⟩ tk hr rfl (sim_cons (sim_var 4) (sim_cons (sim_var 1) sim_nil))) (sim_cons (sim_call ⟨e_far_off B (by omega)⟩ tk hr rfl (sim_cons (sim_var 4) (sim_cons (sim_var 1) sim_nil))) (sim_cons (sim_call ⟨e_holes B (by omega)⟩ tk hr rfl (sim_cons (sim_var 4) (sim_cons (sim_var 1) sim_nil))) sim_nil))))))))
    (sims_cons (sim_ret (sim_call ⟨e_law_same B (by omega)⟩ tk hr rfl (sim_cons (sim_var 6) (sim_cons (sim_add (sim_var 7) (sim_lst (sim_cons (sim_call ⟨e_shows_off B (by omega)⟩ tk hr rfl (sim_cons (sim_var 4) (sim_cons (sim_var 1) (sim_cons sim_non sim_nil)))) (sim_cons sim_int sim_nil)))) sim_nil))))
    sims_nil))))))))))))
theorem e_law_right (B : Base K mg T ad) (h : 10 ≤ k) : ∃ a, EV.FnR P w K mg base (L2.CX P w) k a (spF T K R_law_right_k15) ∧ PySem.W.keepIn K (.ref a) = true ∧ mg "_law_right" = some (.ref a) := ⟨ad 59, (r_law_right B).mono h, B.F_law_right.elim fun _ F => F.kp, B.g_law_right⟩
theorem r_law (B : Base K mg T ad) : EV.FnR P w K mg base (L2.CX P w) 11 (ad 60) (spF T K (fnRun 1 6 false b_law_k15)) := by
  obtain ⟨fd, Fu⟩ := B.F_law
  exact fn_sim (k := 10) (ps := ["_law_script"]) (N := ["_law_script", "_law_k", "_law_pen_here", "_law_turn", "_law_ways", "_law_spots"]) Fu sc_law (Fu.binds fun _ _ _ _ _ _ us hl => match us, hl with | [_], _ => rfl) fun cdv A outer s H E hr hp tk =>
    (sims_cons (sim_for hp rfl (sim_iR1 B.n_range (sim_cons (sim_max2 rfl B.n_max (sim_cons sim_int (sim_cons (sim_min2 rfl B.n_min (sim_cons (sim_len B.n_len (sim_cons (sim_var 0) sim_nil)) (sim_cons sim_int sim_nil))) sim_nil))) sim_nil)) (sim_gN 1 sc_law.nd) (sims_cons (sim_set 2 sc_law.nd (sim_call ⟨e_law_pen B (by omega)⟩ tk hr rfl (sim_cons (sim_call ⟨e_law_cell_at B (by omega)⟩ tk hr rfl (sim_cons (sim_var 0) (sim_cons (sim_var 1) sim_nil))) sim_nil)))
    (sims_cons (sim_for hp rfl (sim_iR1 B.n_range (sim_cons sim_int sim_nil)) (sim_gN 3 sc_law.nd) (sims_cons (sim_par 4 5 rfl sc_law.nd (sim_cons (sim_call ⟨e_law_pick B (by omega)⟩ tk hr rfl (sim_cons (sim_var 2) (sim_cons (sim_lst (sim_cons (sim_tup (sim_cons sim_int (sim_cons sim_int sim_nil))) (sim_cons (sim_tup (sim_cons sim_int (sim_cons sim_int sim_nil))) sim_nil))) sim_nil))) (sim_cons (sim_call ⟨e_law_pick B (by omega)⟩ tk hr rfl (sim_cons (sim_var 2) (sim_cons (sim_lst (sim_cons (sim_tup sim_nil) (sim_cons (sim_tup (sim_cons sim_int sim_nil)) (sim_cons (sim_tup (sim_cons sim_int sim_nil)) (sim_cons (sim_tup (sim_cons sim_int (sim_cons sim_int sim_nil))) sim_nil))))) sim_nil))) sim_nil)))
    (sims_cons (sim_ifS (simT_not (sim_tV (sim_call ⟨e_law_right B (by omega)⟩ tk hr rfl (sim_cons (sim_call ⟨e_law_draw B (by omega)⟩ tk hr rfl (sim_cons (sim_var 2) (sim_cons sim_int sim_nil))) (sim_cons (sim_call ⟨e_law_draw B (by omega)⟩ tk hr rfl (sim_cons (sim_var 2) (sim_cons sim_int sim_nil))) (sim_cons (sim_var 4) (sim_cons (sim_var 5) sim_nil))))))) (sims_cons (sim_ret sim_bl)
    sims_nil) sims_nil)
    sims_nil)))
    sims_nil)))
    (sims_cons (sim_ret sim_bl)
    sims_nil))
end
theorem all_mk {l : PySem.W.OpenLaw} {w : World} {K : PySem.W.Frag} {h : Heap} {mg : Str → Option Value} {fa : Addr} (X : K.In h) (G : h.Ns mainGlobals mg) (hfa : mg "law" = some (.ref fa))
    {C0 : Addr} {f54 : Addr} {od54 an54 : Option Addr} {sl54 : Array (Option Value)} {oc54 kV54 dc54 pm54 cd54 ct54 : Value} {f55 : Addr} {od55 an55 : Option Addr} {sl55 : Array (Option Value)} {oc55 kV55 dc55 pm55 cd55 ct55 : Value} {f56 : Addr} {od56 an56 : Option Addr} {sl56 : Array (Option Value)} {oc56 kV56 dc56 pm56 cd56 ct56 : Value} {f58 : Addr} {od58 an58 : Option Addr} {sl58 : Array (Option Value)} {oc58 kV58 dc58 pm58 cd58 ct58 : Value} {f1 : Addr} {od1 an1 : Option Addr} {sl1 : Array (Option Value)} {oc1 kV1 dc1 pm1 cd1 ct1 : Value} {f2 : Addr} {od2 an2 : Option Addr} {sl2 : Array (Option Value)} {oc2 kV2 dc2 pm2 cd2 ct2 : Value} {f17 : Addr} {od17 an17 : Option Addr} {sl17 : Array (Option Value)} {oc17 kV17 dc17 pm17 cd17 ct17 : Value} {f18 : Addr} {od18 an18 : Option Addr} {sl18 : Array (Option Value)} {oc18 kV18 dc18 pm18 cd18 ct18 : Value} {f4 : Addr} {od4 an4 : Option Addr} {sl4 : Array (Option Value)} {oc4 kV4 dc4 pm4 cd4 ct4 : Value} {f5 : Addr} {od5 an5 : Option Addr} {sl5 : Array (Option Value)} {oc5 kV5 dc5 pm5 cd5 ct5 : Value} {p5 : Addr} {rest5 : List Value} {f20 : Addr} {od20 an20 : Option Addr} {sl20 : Array (Option Value)} {oc20 kV20 dc20 pm20 cd20 ct20 : Value} {f8 : Addr} {od8 an8 : Option Addr} {sl8 : Array (Option Value)} {oc8 kV8 dc8 pm8 cd8 ct8 : Value} {f6 : Addr} {od6 an6 : Option Addr} {sl6 : Array (Option Value)} {oc6 kV6 dc6 pm6 cd6 ct6 : Value} {p6 : Addr} {rest6 : List Value} {f9 : Addr} {od9 an9 : Option Addr} {sl9 : Array (Option Value)} {oc9 kV9 dc9 pm9 cd9 ct9 : Value} {f21 : Addr} {od21 an21 : Option Addr} {sl21 : Array (Option Value)} {oc21 kV21 dc21 pm21 cd21 ct21 : Value} {f15 : Addr} {od15 an15 : Option Addr} {sl15 : Array (Option Value)} {oc15 kV15 dc15 pm15 cd15 ct15 : Value} {f22 : Addr} {od22 an22 : Option Addr} {sl22 : Array (Option Value)} {oc22 kV22 dc22 pm22 cd22 ct22 : Value} {f16 : Addr} {od16 an16 : Option Addr} {sl16 : Array (Option Value)} {oc16 kV16 dc16 pm16 cd16 ct16 : Value} {p16 : Addr} {rest16 : List Value} {f19 : Addr} {od19 an19 : Option Addr} {sl19 : Array (Option Value)} {oc19 kV19 dc19 pm19 cd19 ct19 : Value} {f23 : Addr} {od23 an23 : Option Addr} {sl23 : Array (Option Value)} {oc23 kV23 dc23 pm23 cd23 ct23 : Value} {f0 : Addr} {od0 an0 : Option Addr} {sl0 : Array (Option Value)} {oc0 kV0 dc0 pm0 cd0 ct0 : Value} {f24 : Addr} {od24 an24 : Option Addr} {sl24 : Array (Option Value)} {oc24 kV24 dc24 pm24 cd24 ct24 : Value} {f25 : Addr} {od25 an25 : Option Addr} {sl25 : Array (Option Value)} {oc25 kV25 dc25 pm25 cd25 ct25 : Value} {f26 : Addr} {od26 an26 : Option Addr} {sl26 : Array (Option Value)} {oc26 kV26 dc26 pm26 cd26 ct26 : Value} {f27 : Addr} {od27 an27 : Option Addr} {sl27 : Array (Option Value)} {oc27 kV27 dc27 pm27 cd27 ct27 : Value} {f28 : Addr} {od28 an28 : Option Addr} {sl28 : Array (Option Value)} {oc28 kV28 dc28 pm28 cd28 ct28 : Value} {f29 : Addr} {od29 an29 : Option Addr} {sl29 : Array (Option Value)} {oc29 kV29 dc29 pm29 cd29 ct29 : Value} {f7 : Addr} {od7 an7 : Option Addr} {sl7 : Array (Option Value)} {oc7 kV7 dc7 pm7 cd7 ct7 : Value} {f13 : Addr} {od13 an13 : Option Addr} {sl13 : Array (Option Value)} {oc13 kV13 dc13 pm13 cd13 ct13 : Value} {f30 : Addr} {od30 an30 : Option Addr} {sl30 : Array (Option Value)} {oc30 kV30 dc30 pm30 cd30 ct30 : Value} {f31 : Addr} {od31 an31 : Option Addr} {sl31 : Array (Option Value)} {oc31 kV31 dc31 pm31 cd31 ct31 : Value} {f32 : Addr} {od32 an32 : Option Addr} {sl32 : Array (Option Value)} {oc32 kV32 dc32 pm32 cd32 ct32 : Value} {f33 : Addr} {od33 an33 : Option Addr} {sl33 : Array (Option Value)} {oc33 kV33 dc33 pm33 cd33 ct33 : Value} {f34 : Addr} {od34 an34 : Option Addr} {sl34 : Array (Option Value)} {oc34 kV34 dc34 pm34 cd34 ct34 : Value} {f35 : Addr} {od35 an35 : Option Addr} {sl35 : Array (Option Value)} {oc35 kV35 dc35 pm35 cd35 ct35 : Value} {f36 : Addr} {od36 an36 : Option Addr} {sl36 : Array (Option Value)} {oc36 kV36 dc36 pm36 cd36 ct36 : Value} {f37 : Addr} {od37 an37 : Option Addr} {sl37 : Array (Option Value)} {oc37 kV37 dc37 pm37 cd37 ct37 : Value} {f38 : Addr} {od38 an38 : Option Addr} {sl38 : Array (Option Value)} {oc38 kV38 dc38 pm38 cd38 ct38 : Value} {f39 : Addr} {od39 an39 : Option Addr} {sl39 : Array (Option Value)} {oc39 kV39 dc39 pm39 cd39 ct39 : Value} {f3 : Addr} {od3 an3 : Option Addr} {sl3 : Array (Option Value)} {oc3 kV3 dc3 pm3 cd3 ct3 : Value} {f40 : Addr} {od40 an40 : Option Addr} {sl40 : Array (Option Value)} {oc40 kV40 dc40 pm40 cd40 ct40 : Value} {f41 : Addr} {od41 an41 : Option Addr} {sl41 : Array (Option Value)} {oc41 kV41 dc41 pm41 cd41 ct41 : Value} {f44 : Addr} {od44 an44 : Option Addr} {sl44 : Array (Option Value)} {oc44 kV44 dc44 pm44 cd44 ct44 : Value} {f42 : Addr} {od42 an42 : Option Addr} {sl42 : Array (Option Value)} {oc42 kV42 dc42 pm42 cd42 ct42 : Value} {f43 : Addr} {od43 an43 : Option Addr} {sl43 : Array (Option Value)} {oc43 kV43 dc43 pm43 cd43 ct43 : Value} {f45 : Addr} {od45 an45 : Option Addr} {sl45 : Array (Option Value)} {oc45 kV45 dc45 pm45 cd45 ct45 : Value} {f46 : Addr} {od46 an46 : Option Addr} {sl46 : Array (Option Value)} {oc46 kV46 dc46 pm46 cd46 ct46 : Value} {f47 : Addr} {od47 an47 : Option Addr} {sl47 : Array (Option Value)} {oc47 kV47 dc47 pm47 cd47 ct47 : Value} {f48 : Addr} {od48 an48 : Option Addr} {sl48 : Array (Option Value)} {oc48 kV48 dc48 pm48 cd48 ct48 : Value} {f52 : Addr} {od52 an52 : Option Addr} {sl52 : Array (Option Value)} {oc52 kV52 dc52 pm52 cd52 ct52 : Value} {f53 : Addr} {od53 an53 : Option Addr} {sl53 : Array (Option Value)} {oc53 kV53 dc53 pm53 cd53 ct53 : Value} {f11 : Addr} {od11 an11 : Option Addr} {sl11 : Array (Option Value)} {oc11 kV11 dc11 pm11 cd11 ct11 : Value} {f49 : Addr} {od49 an49 : Option Addr} {sl49 : Array (Option Value)} {oc49 kV49 dc49 pm49 cd49 ct49 : Value} {f50 : Addr} {od50 an50 : Option Addr} {sl50 : Array (Option Value)} {oc50 kV50 dc50 pm50 cd50 ct50 : Value} {f51 : Addr} {od51 an51 : Option Addr} {sl51 : Array (Option Value)} {oc51 kV51 dc51 pm51 cd51 ct51 : Value} {f57 : Addr} {od57 an57 : Option Addr} {sl57 : Array (Option Value)} {oc57 kV57 dc57 pm57 cd57 ct57 : Value} {f59 : Addr} {od59 an59 : Option Addr} {sl59 : Array (Option Value)} {oc59 kV59 dc59 pm59 cd59 ct59 : Value} {f60 : Addr} {od60 an60 : Option Addr} {sl60 : Array (Option Value)} {oc60 kV60 dc60 pm60 cd60 ct60 : Value} {E2 : Addr} {E5 : Addr} {E6 : Addr} {E8 : Addr} {E7 : Addr} {E3 : Addr} {E4 : Addr} {E1 : Addr} {t_MOST_BITS : Tok} {t_MOST_SPAN : Tok} {t_MOST_WORDS : Tok} {ta_MANY : Addr} {td_MANY : Option Addr} {ti_MANY : Array Value} {tn_MANY : Nat} {ts_MANY : Array (Option Value)}
    (aC0 : PySem.W.nsIn K mainGlobals "Code" = some (some (.ref C0)))
    (pg0 : PySem.W.plainGet K C0 Str.empty = true)
    (hd0 : PySem.W.hasDictIn K C0 = true)
    (po0 : PySem.W.plainOver K C0 = true)
    (sa0 : PySem.W.findIn K (.ref C0) "__setattr__" = some (some (.builtin "object.__setattr__")))
    (mk0 : PySem.W.makesIn K C0 = true)
    (kc0 : PySem.W.keepIn K (.ref C0) = true)
    (no0_0 : PySem.W.findIn K (.ref C0) "_words" = some none)
    (no0_1 : PySem.W.findIn K (.ref C0) "_numbers" = some none)
    (no0_2 : PySem.W.findIn K (.ref C0) "windows" = some none)
    (ia0 : PySem.W.findIn K (.ref C0) "__class__" = some (some (.builtin "object.__class__")))
    (in0 : PySem.W.specialIn K (.builtin "object.__class__") "__get__" = some (some (.builtin "getset_descriptor.__get__")))
    (it0 : PySem.W.takesIn K (.builtin "object.__class__") = some true)
    (im0 : PySem.W.mroIn K C0 (.type "object") = some true)
    (ik0_NoneType : PySem.W.kitOne K (.type "NoneType") (.ref C0) = some false)
    (ik0_bool : PySem.W.kitOne K (.type "bool") (.ref C0) = some false)
    (ik0_int : PySem.W.kitOne K (.type "int") (.ref C0) = some false)
    (ik0_str : PySem.W.kitOne K (.type "str") (.ref C0) = some false)
    (ik0_tuple : PySem.W.kitOne K (.type "tuple") (.ref C0) = some false)
    (ik0_list : PySem.W.kitOne K (.type "list") (.ref C0) = some false)
    (ik0_dict : PySem.W.kitOne K (.type "dict") (.ref C0) = some false)
    (a54 : PySem.W.nsIn K mainGlobals "_law_cell_at" = some (some (.ref f54)))
    (l54 : K.lookup f54 = some ⟨oc54, od54, .func (PySem.W.fnOf "_law_cell_at" "_law_cell_at" (defArgs s_law_cell_at) (defBody s_law_cell_at) (defScope s_law_cell_at) .none kV54 dc54 pm54 an54 cd54 ct54), sl54⟩)
    (c54 : PySem.W.codeIn K cd54 "_law_cell_at" = true)
    (k54 : PySem.W.keepIn K (.ref f54) = true)
    (a55 : PySem.W.nsIn K mainGlobals "_law_pen" = some (some (.ref f55)))
    (l55 : K.lookup f55 = some ⟨oc55, od55, .func (PySem.W.fnOf "_law_pen" "_law_pen" (defArgs s_law_pen) (defBody s_law_pen) (defScope s_law_pen) .none kV55 dc55 pm55 an55 cd55 ct55), sl55⟩)
    (c55 : PySem.W.codeIn K cd55 "_law_pen" = true)
    (k55 : PySem.W.keepIn K (.ref f55) = true)
    (a56 : PySem.W.nsIn K mainGlobals "_law_draw" = some (some (.ref f56)))
    (l56 : K.lookup f56 = some ⟨oc56, od56, .func (PySem.W.fnOf "_law_draw" "_law_draw" (defArgs s_law_draw) (defBody s_law_draw) (defScope s_law_draw) .none kV56 dc56 pm56 an56 cd56 ct56), sl56⟩)
    (c56 : PySem.W.codeIn K cd56 "_law_draw" = true)
    (k56 : PySem.W.keepIn K (.ref f56) = true)
    (a58 : PySem.W.nsIn K mainGlobals "_law_pick" = some (some (.ref f58)))
    (l58 : K.lookup f58 = some ⟨oc58, od58, .func (PySem.W.fnOf "_law_pick" "_law_pick" (defArgs s_law_pick) (defBody s_law_pick) (defScope s_law_pick) .none kV58 dc58 pm58 an58 cd58 ct58), sl58⟩)
    (c58 : PySem.W.codeIn K cd58 "_law_pick" = true)
    (k58 : PySem.W.keepIn K (.ref f58) = true)
    (a1 : PySem.W.nsIn K mainGlobals "is_between" = some (some (.ref f1)))
    (l1 : K.lookup f1 = some ⟨oc1, od1, .func (PySem.W.fnOf "is_between" "is_between" (defArgs s_is_between) (defBody s_is_between) (defScope s_is_between) .none kV1 dc1 pm1 an1 cd1 ct1), sl1⟩)
    (c1 : PySem.W.codeIn K cd1 "is_between" = true)
    (k1 : PySem.W.keepIn K (.ref f1) = true)
    (a2 : PySem.W.nsIn K mainGlobals "are_between" = some (some (.ref f2)))
    (l2 : K.lookup f2 = some ⟨oc2, od2, .func (PySem.W.fnOf "are_between" "are_between" (defArgs s_are_between) (defBody s_are_between) (defScope s_are_between) .none kV2 dc2 pm2 an2 cd2 ct2), sl2⟩)
    (c2 : PySem.W.codeIn K cd2 "are_between" = true)
    (k2 : PySem.W.keepIn K (.ref f2) = true)
    (a17 : PySem.W.nsIn K mainGlobals "is_word" = some (some (.ref f17)))
    (l17 : K.lookup f17 = some ⟨oc17, od17, .func (PySem.W.fnOf "is_word" "is_word" (defArgs s_is_word) (defBody s_is_word) (defScope s_is_word) .none kV17 dc17 pm17 an17 cd17 ct17), sl17⟩)
    (c17 : PySem.W.codeIn K cd17 "is_word" = true)
    (k17 : PySem.W.keepIn K (.ref f17) = true)
    (a18 : PySem.W.nsIn K mainGlobals "are_words" = some (some (.ref f18)))
    (l18 : K.lookup f18 = some ⟨oc18, od18, .func (PySem.W.fnOf "are_words" "are_words" (defArgs s_are_words) (defBody s_are_words) (defScope s_are_words) .none kV18 dc18 pm18 an18 cd18 ct18), sl18⟩)
    (c18 : PySem.W.codeIn K cd18 "are_words" = true)
    (k18 : PySem.W.keepIn K (.ref f18) = true)
    (a4 : PySem.W.findIn K (.ref C0) "__init__" = some (some (.ref f4)))
    (fn4 : PySem.W.isFn K (.ref f4) = true)
    (l4 : K.lookup f4 = some ⟨oc4, od4, .func (PySem.W.fnOf "__init__" "Code.__init__" (defArgs s_Code_init) (defBody s_Code_init) (defScope s_Code_init) .none kV4 dc4 pm4 an4 cd4 ct4), sl4⟩)
    (c4 : PySem.W.codeIn K cd4 "Code.__init__" = true)
    (k4 : PySem.W.keepIn K (.ref f4) = true)
    (a5 : PySem.W.findIn K (.ref C0) "words" = some (some (.ref p5)))
    (ge5 : PySem.W.specialIn K (.ref p5) "__get__" = some (some (.builtin "property.__get__")))
    (ta5 : PySem.W.takesIn K (.ref p5) = some true)
    (re5 : PySem.W.recIn K p5 "property" = some (.ref f5 :: rest5))
    (l5 : K.lookup f5 = some ⟨oc5, od5, .func (PySem.W.fnOf "words" "Code.words" (defArgs s_Code_words) (defBody s_Code_words) (defScope s_Code_words) .none kV5 dc5 pm5 an5 cd5 ct5), sl5⟩)
    (c5 : PySem.W.codeIn K cd5 "Code.words" = true)
    (k5 : PySem.W.keepIn K (.ref f5) = true)
    (a20 : PySem.W.nsIn K mainGlobals "check_value" = some (some (.ref f20)))
    (l20 : K.lookup f20 = some ⟨oc20, od20, .func (PySem.W.fnOf "check_value" "check_value" (defArgs s_check_value) (defBody s_check_value) (defScope s_check_value) .none kV20 dc20 pm20 an20 cd20 ct20), sl20⟩)
    (c20 : PySem.W.codeIn K cd20 "check_value" = true)
    (k20 : PySem.W.keepIn K (.ref f20) = true)
    (a8 : PySem.W.findIn K (.ref C0) "__call__" = some (some (.ref f8)))
    (fn8 : PySem.W.isFn K (.ref f8) = true)
    (fi8 : PySem.W.fnIn K f8 = true)
    (l8 : K.lookup f8 = some ⟨oc8, od8, .func (PySem.W.fnOf "__call__" "Code.__call__" (defArgs s_Code_call) (defBody s_Code_call) (defScope s_Code_call) .none kV8 dc8 pm8 an8 cd8 ct8), sl8⟩)
    (c8 : PySem.W.codeIn K cd8 "Code.__call__" = true)
    (k8 : PySem.W.keepIn K (.ref f8) = true)
    (a6 : PySem.W.findIn K (.ref C0) "bits" = some (some (.ref p6)))
    (ge6 : PySem.W.specialIn K (.ref p6) "__get__" = some (some (.builtin "property.__get__")))
    (ta6 : PySem.W.takesIn K (.ref p6) = some true)
    (re6 : PySem.W.recIn K p6 "property" = some (.ref f6 :: rest6))
    (l6 : K.lookup f6 = some ⟨oc6, od6, .func (PySem.W.fnOf "bits" "Code.bits" (defArgs s_Code_bits) (defBody s_Code_bits) (defScope s_Code_bits) .none kV6 dc6 pm6 an6 cd6 ct6), sl6⟩)
    (c6 : PySem.W.codeIn K cd6 "Code.bits" = true)
    (k6 : PySem.W.keepIn K (.ref f6) = true)
    (a9 : PySem.W.findIn K (.ref C0) "__getitem__" = some (some (.ref f9)))
    (fn9 : PySem.W.isFn K (.ref f9) = true)
    (fi9 : PySem.W.fnIn K f9 = true)
    (l9 : K.lookup f9 = some ⟨oc9, od9, .func (PySem.W.fnOf "__getitem__" "Code.__getitem__" (defArgs s_Code_getitem) (defBody s_Code_getitem) (defScope s_Code_getitem) .none kV9 dc9 pm9 an9 cd9 ct9), sl9⟩)
    (c9 : PySem.W.codeIn K cd9 "Code.__getitem__" = true)
    (k9 : PySem.W.keepIn K (.ref f9) = true)
    (a21 : PySem.W.nsIn K mainGlobals "spelled" = some (some (.ref f21)))
    (l21 : K.lookup f21 = some ⟨oc21, od21, .func (PySem.W.fnOf "spelled" "spelled" (defArgs s_spelled) (defBody s_spelled) (defScope s_spelled) .none kV21 dc21 pm21 an21 cd21 ct21), sl21⟩)
    (c21 : PySem.W.codeIn K cd21 "spelled" = true)
    (k21 : PySem.W.keepIn K (.ref f21) = true)
    (a15 : PySem.W.findIn K (.ref C0) "text" = some (some (.ref f15)))
    (fn15 : PySem.W.isFn K (.ref f15) = true)
    (l15 : K.lookup f15 = some ⟨oc15, od15, .func (PySem.W.fnOf "text" "Code.text" (defArgs s_Code_text) (defBody s_Code_text) (defScope s_Code_text) .none kV15 dc15 pm15 an15 cd15 ct15), sl15⟩)
    (c15 : PySem.W.codeIn K cd15 "Code.text" = true)
    (k15 : PySem.W.keepIn K (.ref f15) = true)
    (a22 : PySem.W.nsIn K mainGlobals "read_words" = some (some (.ref f22)))
    (l22 : K.lookup f22 = some ⟨oc22, od22, .func (PySem.W.fnOf "read_words" "read_words" (defArgs s_read_words) (defBody s_read_words) (defScope s_read_words) .none kV22 dc22 pm22 an22 cd22 ct22), sl22⟩)
    (c22 : PySem.W.codeIn K cd22 "read_words" = true)
    (k22 : PySem.W.keepIn K (.ref f22) = true)
    (rd16 : PySem.W.readsIn K C0 (.type "type") = true)
    (ga16 : PySem.W.specialIn K (.ref C0) "__getattribute__" = some (some (.builtin "type.__getattribute__")))
    (a16 : PySem.W.findCls K (.ref C0) (.type "type") "read" = some (.get (.builtin "classmethod.__get__") (.ref p16) .none (.ref C0)))
    (rc16 : PySem.W.recIn K p16 "classmethod" = some (.ref f16 :: rest16))
    (fi16 : PySem.W.fnIn K f16 = true)
    (l16 : K.lookup f16 = some ⟨oc16, od16, .func (PySem.W.fnOf "read" "Code.read" (defArgs s_Code_read) (defBody s_Code_read) (defScope s_Code_read) .none kV16 dc16 pm16 an16 cd16 ct16), sl16⟩)
    (c16 : PySem.W.codeIn K cd16 "Code.read" = true)
    (k16 : PySem.W.keepIn K (.ref f16) = true)
    (a19 : PySem.W.nsIn K mainGlobals "check_code" = some (some (.ref f19)))
    (l19 : K.lookup f19 = some ⟨oc19, od19, .func (PySem.W.fnOf "check_code" "check_code" (defArgs s_check_code) (defBody s_check_code) (defScope s_check_code) .none kV19 dc19 pm19 an19 cd19 ct19), sl19⟩)
    (c19 : PySem.W.codeIn K cd19 "check_code" = true)
    (k19 : PySem.W.keepIn K (.ref f19) = true)
    (a23 : PySem.W.nsIn K mainGlobals "turned" = some (some (.ref f23)))
    (l23 : K.lookup f23 = some ⟨oc23, od23, .func (PySem.W.fnOf "turned" "turned" (defArgs s_turned) (defBody s_turned) (defScope s_turned) .none kV23 dc23 pm23 an23 cd23 ct23), sl23⟩)
    (c23 : PySem.W.codeIn K cd23 "turned" = true)
    (k23 : PySem.W.keepIn K (.ref f23) = true)
    (a0 : PySem.W.nsIn K mainGlobals "is_whole" = some (some (.ref f0)))
    (l0 : K.lookup f0 = some ⟨oc0, od0, .func (PySem.W.fnOf "is_whole" "is_whole" (defArgs s_is_whole) (defBody s_is_whole) (defScope s_is_whole) .none kV0 dc0 pm0 an0 cd0 ct0), sl0⟩)
    (c0 : PySem.W.codeIn K cd0 "is_whole" = true)
    (k0 : PySem.W.keepIn K (.ref f0) = true)
    (a24 : PySem.W.nsIn K mainGlobals "is_order" = some (some (.ref f24)))
    (l24 : K.lookup f24 = some ⟨oc24, od24, .func (PySem.W.fnOf "is_order" "is_order" (defArgs s_is_order) (defBody s_is_order) (defScope s_is_order) .none kV24 dc24 pm24 an24 cd24 ct24), sl24⟩)
    (c24 : PySem.W.codeIn K cd24 "is_order" = true)
    (k24 : PySem.W.keepIn K (.ref f24) = true)
    (a25 : PySem.W.nsIn K mainGlobals "moved" = some (some (.ref f25)))
    (l25 : K.lookup f25 = some ⟨oc25, od25, .func (PySem.W.fnOf "moved" "moved" (defArgs s_moved) (defBody s_moved) (defScope s_moved) .none kV25 dc25 pm25 an25 cd25 ct25), sl25⟩)
    (c25 : PySem.W.codeIn K cd25 "moved" = true)
    (k25 : PySem.W.keepIn K (.ref f25) = true)
    (a26 : PySem.W.nsIn K mainGlobals "renamed" = some (some (.ref f26)))
    (l26 : K.lookup f26 = some ⟨oc26, od26, .func (PySem.W.fnOf "renamed" "renamed" (defArgs s_renamed) (defBody s_renamed) (defScope s_renamed) .none kV26 dc26 pm26 an26 cd26 ct26), sl26⟩)
    (c26 : PySem.W.codeIn K cd26 "renamed" = true)
    (k26 : PySem.W.keepIn K (.ref f26) = true)
    (a27 : PySem.W.nsIn K mainGlobals "are_places" = some (some (.ref f27)))
    (l27 : K.lookup f27 = some ⟨oc27, od27, .func (PySem.W.fnOf "are_places" "are_places" (defArgs s_are_places) (defBody s_are_places) (defScope s_are_places) .none kV27 dc27 pm27 an27 cd27 ct27), sl27⟩)
    (c27 : PySem.W.codeIn K cd27 "are_places" = true)
    (k27 : PySem.W.keepIn K (.ref f27) = true)
    (a28 : PySem.W.nsIn K mainGlobals "exchanged" = some (some (.ref f28)))
    (l28 : K.lookup f28 = some ⟨oc28, od28, .func (PySem.W.fnOf "exchanged" "exchanged" (defArgs s_exchanged) (defBody s_exchanged) (defScope s_exchanged) .none kV28 dc28 pm28 an28 cd28 ct28), sl28⟩)
    (c28 : PySem.W.codeIn K cd28 "exchanged" = true)
    (k28 : PySem.W.keepIn K (.ref f28) = true)
    (a29 : PySem.W.nsIn K mainGlobals "flipped" = some (some (.ref f29)))
    (l29 : K.lookup f29 = some ⟨oc29, od29, .func (PySem.W.fnOf "flipped" "flipped" (defArgs s_flipped) (defBody s_flipped) (defScope s_flipped) .none kV29 dc29 pm29 an29 cd29 ct29), sl29⟩)
    (c29 : PySem.W.codeIn K cd29 "flipped" = true)
    (k29 : PySem.W.keepIn K (.ref f29) = true)
    (a7 : PySem.W.findIn K (.ref C0) "__len__" = some (some (.ref f7)))
    (fn7 : PySem.W.isFn K (.ref f7) = true)
    (fi7 : PySem.W.fnIn K f7 = true)
    (l7 : K.lookup f7 = some ⟨oc7, od7, .func (PySem.W.fnOf "__len__" "Code.__len__" (defArgs s_Code_len) (defBody s_Code_len) (defScope s_Code_len) .none kV7 dc7 pm7 an7 cd7 ct7), sl7⟩)
    (c7 : PySem.W.codeIn K cd7 "Code.__len__" = true)
    (k7 : PySem.W.keepIn K (.ref f7) = true)
    (a13 : PySem.W.findIn K (.ref C0) "__neg__" = some (some (.ref f13)))
    (fn13 : PySem.W.isFn K (.ref f13) = true)
    (fi13 : PySem.W.fnIn K f13 = true)
    (l13 : K.lookup f13 = some ⟨oc13, od13, .func (PySem.W.fnOf "__neg__" "Code.__neg__" (defArgs s_Code_neg) (defBody s_Code_neg) (defScope s_Code_neg) .none kV13 dc13 pm13 an13 cd13 ct13), sl13⟩)
    (c13 : PySem.W.codeIn K cd13 "Code.__neg__" = true)
    (k13 : PySem.W.keepIn K (.ref f13) = true)
    (a30 : PySem.W.nsIn K mainGlobals "column" = some (some (.ref f30)))
    (l30 : K.lookup f30 = some ⟨oc30, od30, .func (PySem.W.fnOf "column" "column" (defArgs s_column) (defBody s_column) (defScope s_column) .none kV30 dc30 pm30 an30 cd30 ct30), sl30⟩)
    (c30 : PySem.W.codeIn K cd30 "column" = true)
    (k30 : PySem.W.keepIn K (.ref f30) = true)
    (a31 : PySem.W.nsIn K mainGlobals "fitting_order" = some (some (.ref f31)))
    (l31 : K.lookup f31 = some ⟨oc31, od31, .func (PySem.W.fnOf "fitting_order" "fitting_order" (defArgs s_fitting_order) (defBody s_fitting_order) (defScope s_fitting_order) .none kV31 dc31 pm31 an31 cd31 ct31), sl31⟩)
    (c31 : PySem.W.codeIn K cd31 "fitting_order" = true)
    (k31 : PySem.W.keepIn K (.ref f31) = true)
    (a32 : PySem.W.nsIn K mainGlobals "fitting_places" = some (some (.ref f32)))
    (l32 : K.lookup f32 = some ⟨oc32, od32, .func (PySem.W.fnOf "fitting_places" "fitting_places" (defArgs s_fitting_places) (defBody s_fitting_places) (defScope s_fitting_places) .none kV32 dc32 pm32 an32 cd32 ct32), sl32⟩)
    (c32 : PySem.W.codeIn K cd32 "fitting_places" = true)
    (k32 : PySem.W.keepIn K (.ref f32) = true)
    (a33 : PySem.W.nsIn K mainGlobals "alike" = some (some (.ref f33)))
    (l33 : K.lookup f33 = some ⟨oc33, od33, .func (PySem.W.fnOf "alike" "alike" (defArgs s_alike) (defBody s_alike) (defScope s_alike) .none kV33 dc33 pm33 an33 cd33 ct33), sl33⟩)
    (c33 : PySem.W.codeIn K cd33 "alike" = true)
    (k33 : PySem.W.keepIn K (.ref f33) = true)
    (a34 : PySem.W.nsIn K mainGlobals "window_of" = some (some (.ref f34)))
    (l34 : K.lookup f34 = some ⟨oc34, od34, .func (PySem.W.fnOf "window_of" "window_of" (defArgs s_window_of) (defBody s_window_of) (defScope s_window_of) .none kV34 dc34 pm34 an34 cd34 ct34), sl34⟩)
    (c34 : PySem.W.codeIn K cd34 "window_of" = true)
    (k34 : PySem.W.keepIn K (.ref f34) = true)
    (a35 : PySem.W.nsIn K mainGlobals "mixtures" = some (some (.ref f35)))
    (l35 : K.lookup f35 = some ⟨oc35, od35, .func (PySem.W.fnOf "mixtures" "mixtures" (defArgs s_mixtures) (defBody s_mixtures) (defScope s_mixtures) .none kV35 dc35 pm35 an35 cd35 ct35), sl35⟩)
    (c35 : PySem.W.codeIn K cd35 "mixtures" = true)
    (k35 : PySem.W.keepIn K (.ref f35) = true)
    (a36 : PySem.W.nsIn K mainGlobals "seen" = some (some (.ref f36)))
    (l36 : K.lookup f36 = some ⟨oc36, od36, .func (PySem.W.fnOf "seen" "seen" (defArgs s_seen) (defBody s_seen) (defScope s_seen) .none kV36 dc36 pm36 an36 cd36 ct36), sl36⟩)
    (c36 : PySem.W.codeIn K cd36 "seen" = true)
    (k36 : PySem.W.keepIn K (.ref f36) = true)
    (a37 : PySem.W.nsIn K mainGlobals "mixes" = some (some (.ref f37)))
    (l37 : K.lookup f37 = some ⟨oc37, od37, .func (PySem.W.fnOf "mixes" "mixes" (defArgs s_mixes) (defBody s_mixes) (defScope s_mixes) .none kV37 dc37 pm37 an37 cd37 ct37), sl37⟩)
    (c37 : PySem.W.codeIn K cd37 "mixes" = true)
    (k37 : PySem.W.keepIn K (.ref f37) = true)
    (a38 : PySem.W.nsIn K mainGlobals "changes" = some (some (.ref f38)))
    (l38 : K.lookup f38 = some ⟨oc38, od38, .func (PySem.W.fnOf "changes" "changes" (defArgs s_changes) (defBody s_changes) (defScope s_changes) .none kV38 dc38 pm38 an38 cd38 ct38), sl38⟩)
    (c38 : PySem.W.codeIn K cd38 "changes" = true)
    (k38 : PySem.W.keepIn K (.ref f38) = true)
    (a39 : PySem.W.nsIn K mainGlobals "is_single" = some (some (.ref f39)))
    (l39 : K.lookup f39 = some ⟨oc39, od39, .func (PySem.W.fnOf "is_single" "is_single" (defArgs s_is_single) (defBody s_is_single) (defScope s_is_single) .none kV39 dc39 pm39 an39 cd39 ct39), sl39⟩)
    (c39 : PySem.W.codeIn K cd39 "is_single" = true)
    (k39 : PySem.W.keepIn K (.ref f39) = true)
    (a3 : PySem.W.nsIn K mainGlobals "check_span" = some (some (.ref f3)))
    (l3 : K.lookup f3 = some ⟨oc3, od3, .func (PySem.W.fnOf "check_span" "check_span" (defArgs s_check_span) (defBody s_check_span) (defScope s_check_span) .none kV3 dc3 pm3 an3 cd3 ct3), sl3⟩)
    (c3 : PySem.W.codeIn K cd3 "check_span" = true)
    (k3 : PySem.W.keepIn K (.ref f3) = true)
    (a40 : PySem.W.nsIn K mainGlobals "readings" = some (some (.ref f40)))
    (l40 : K.lookup f40 = some ⟨oc40, od40, .func (PySem.W.fnOf "readings" "readings" (defArgs s_readings) (defBody s_readings) (defScope s_readings) .none kV40 dc40 pm40 an40 cd40 ct40), sl40⟩)
    (c40 : PySem.W.codeIn K cd40 "readings" = true)
    (k40 : PySem.W.keepIn K (.ref f40) = true)
    (a41 : PySem.W.nsIn K mainGlobals "numbers_of" = some (some (.ref f41)))
    (l41 : K.lookup f41 = some ⟨oc41, od41, .func (PySem.W.fnOf "numbers_of" "numbers_of" (defArgs s_numbers_of) (defBody s_numbers_of) (defScope s_numbers_of) .none kV41 dc41 pm41 an41 cd41 ct41), sl41⟩)
    (c41 : PySem.W.codeIn K cd41 "numbers_of" = true)
    (k41 : PySem.W.keepIn K (.ref f41) = true)
    (a44 : PySem.W.nsIn K mainGlobals "gaps_from" = some (some (.ref f44)))
    (l44 : K.lookup f44 = some ⟨oc44, od44, .func (PySem.W.fnOf "gaps_from" "gaps_from" (defArgs s_gaps_from) (defBody s_gaps_from) (defScope s_gaps_from) .none kV44 dc44 pm44 an44 cd44 ct44), sl44⟩)
    (c44 : PySem.W.codeIn K cd44 "gaps_from" = true)
    (k44 : PySem.W.keepIn K (.ref f44) = true)
    (a42 : PySem.W.nsIn K mainGlobals "fixed_and_free" = some (some (.ref f42)))
    (l42 : K.lookup f42 = some ⟨oc42, od42, .func (PySem.W.fnOf "fixed_and_free" "fixed_and_free" (defArgs s_fixed_and_free) (defBody s_fixed_and_free) (defScope s_fixed_and_free) .none kV42 dc42 pm42 an42 cd42 ct42), sl42⟩)
    (c42 : PySem.W.codeIn K cd42 "fixed_and_free" = true)
    (k42 : PySem.W.keepIn K (.ref f42) = true)
    (a43 : PySem.W.nsIn K mainGlobals "seen_values" = some (some (.ref f43)))
    (l43 : K.lookup f43 = some ⟨oc43, od43, .func (PySem.W.fnOf "seen_values" "seen_values" (defArgs s_seen_values) (defBody s_seen_values) (defScope s_seen_values) .none kV43 dc43 pm43 an43 cd43 ct43), sl43⟩)
    (c43 : PySem.W.codeIn K cd43 "seen_values" = true)
    (k43 : PySem.W.keepIn K (.ref f43) = true)
    (a45 : PySem.W.nsIn K mainGlobals "all_off" = some (some (.ref f45)))
    (l45 : K.lookup f45 = some ⟨oc45, od45, .func (PySem.W.fnOf "all_off" "all_off" (defArgs s_all_off) (defBody s_all_off) (defScope s_all_off) .none kV45 dc45 pm45 an45 cd45 ct45), sl45⟩)
    (c45 : PySem.W.codeIn K cd45 "all_off" = true)
    (k45 : PySem.W.keepIn K (.ref f45) = true)
    (a46 : PySem.W.nsIn K mainGlobals "most_off" = some (some (.ref f46)))
    (l46 : K.lookup f46 = some ⟨oc46, od46, .func (PySem.W.fnOf "most_off" "most_off" (defArgs s_most_off) (defBody s_most_off) (defScope s_most_off) .none kV46 dc46 pm46 an46 cd46 ct46), sl46⟩)
    (c46 : PySem.W.codeIn K cd46 "most_off" = true)
    (k46 : PySem.W.keepIn K (.ref f46) = true)
    (a47 : PySem.W.nsIn K mainGlobals "off" = some (some (.ref f47)))
    (l47 : K.lookup f47 = some ⟨oc47, od47, .func (PySem.W.fnOf "off" "off" (defArgs s_off) (defBody s_off) (defScope s_off) .none kV47 dc47 pm47 an47 cd47 ct47), sl47⟩)
    (c47 : PySem.W.codeIn K cd47 "off" = true)
    (k47 : PySem.W.keepIn K (.ref f47) = true)
    (a48 : PySem.W.nsIn K mainGlobals "far_off" = some (some (.ref f48)))
    (l48 : K.lookup f48 = some ⟨oc48, od48, .func (PySem.W.fnOf "far_off" "far_off" (defArgs s_far_off) (defBody s_far_off) (defScope s_far_off) .none kV48 dc48 pm48 an48 cd48 ct48), sl48⟩)
    (c48 : PySem.W.codeIn K cd48 "far_off" = true)
    (k48 : PySem.W.keepIn K (.ref f48) = true)
    (a52 : PySem.W.nsIn K mainGlobals "holes_at" = some (some (.ref f52)))
    (l52 : K.lookup f52 = some ⟨oc52, od52, .func (PySem.W.fnOf "holes_at" "holes_at" (defArgs s_holes_at) (defBody s_holes_at) (defScope s_holes_at) .none kV52 dc52 pm52 an52 cd52 ct52), sl52⟩)
    (c52 : PySem.W.codeIn K cd52 "holes_at" = true)
    (k52 : PySem.W.keepIn K (.ref f52) = true)
    (a53 : PySem.W.nsIn K mainGlobals "holes" = some (some (.ref f53)))
    (l53 : K.lookup f53 = some ⟨oc53, od53, .func (PySem.W.fnOf "holes" "holes" (defArgs s_holes) (defBody s_holes) (defScope s_holes) .none kV53 dc53 pm53 an53 cd53 ct53), sl53⟩)
    (c53 : PySem.W.codeIn K cd53 "holes" = true)
    (k53 : PySem.W.keepIn K (.ref f53) = true)
    (a11 : PySem.W.findIn K (.ref C0) "__contains__" = some (some (.ref f11)))
    (fn11 : PySem.W.isFn K (.ref f11) = true)
    (fi11 : PySem.W.fnIn K f11 = true)
    (l11 : K.lookup f11 = some ⟨oc11, od11, .func (PySem.W.fnOf "__contains__" "Code.__contains__" (defArgs s_Code_contains) (defBody s_Code_contains) (defScope s_Code_contains) .none kV11 dc11 pm11 an11 cd11 ct11), sl11⟩)
    (c11 : PySem.W.codeIn K cd11 "Code.__contains__" = true)
    (k11 : PySem.W.keepIn K (.ref f11) = true)
    (a49 : PySem.W.nsIn K mainGlobals "off_by" = some (some (.ref f49)))
    (l49 : K.lookup f49 = some ⟨oc49, od49, .func (PySem.W.fnOf "off_by" "off_by" (defArgs s_off_by) (defBody s_off_by) (defScope s_off_by) .none kV49 dc49 pm49 an49 cd49 ct49), sl49⟩)
    (c49 : PySem.W.codeIn K cd49 "off_by" = true)
    (k49 : PySem.W.keepIn K (.ref f49) = true)
    (a50 : PySem.W.nsIn K mainGlobals "shows_off" = some (some (.ref f50)))
    (l50 : K.lookup f50 = some ⟨oc50, od50, .func (PySem.W.fnOf "shows_off" "shows_off" (defArgs s_shows_off) (defBody s_shows_off) (defScope s_shows_off) .none kV50 dc50 pm50 an50 cd50 ct50), sl50⟩)
    (c50 : PySem.W.codeIn K cd50 "shows_off" = true)
    (k50 : PySem.W.keepIn K (.ref f50) = true)
    (a51 : PySem.W.nsIn K mainGlobals "tolerance" = some (some (.ref f51)))
    (l51 : K.lookup f51 = some ⟨oc51, od51, .func (PySem.W.fnOf "tolerance" "tolerance" (defArgs s_tolerance) (defBody s_tolerance) (defScope s_tolerance) .none kV51 dc51 pm51 an51 cd51 ct51), sl51⟩)
    (c51 : PySem.W.codeIn K cd51 "tolerance" = true)
    (k51 : PySem.W.keepIn K (.ref f51) = true)
    (a57 : PySem.W.nsIn K mainGlobals "_law_same" = some (some (.ref f57)))
    (l57 : K.lookup f57 = some ⟨oc57, od57, .func (PySem.W.fnOf "_law_same" "_law_same" (defArgs s_law_same) (defBody s_law_same) (defScope s_law_same) .none kV57 dc57 pm57 an57 cd57 ct57), sl57⟩)
    (c57 : PySem.W.codeIn K cd57 "_law_same" = true)
    (k57 : PySem.W.keepIn K (.ref f57) = true)
    (a59 : PySem.W.nsIn K mainGlobals "_law_right" = some (some (.ref f59)))
    (l59 : K.lookup f59 = some ⟨oc59, od59, .func (PySem.W.fnOf "_law_right" "_law_right" (defArgs s_law_right) (defBody s_law_right) (defScope s_law_right) .none kV59 dc59 pm59 an59 cd59 ct59), sl59⟩)
    (c59 : PySem.W.codeIn K cd59 "_law_right" = true)
    (k59 : PySem.W.keepIn K (.ref f59) = true)
    (a60 : PySem.W.nsIn K mainGlobals "law" = some (some (.ref f60)))
    (l60 : K.lookup f60 = some ⟨oc60, od60, .func (PySem.W.fnOf "law" "law" (defArgs s_law) (defBody s_law) (defScope s_law) .none kV60 dc60 pm60 an60 cd60 ct60), sl60⟩)
    (c60 : PySem.W.codeIn K cd60 "law" = true)
    (k60 : PySem.W.keepIn K (.ref f60) = true)
    (eg2 : PySem.W.nsIn K mainGlobals "NoCode" = some (some (.ref E2)))
    (ex2 : PySem.W.excIn K E2 [.type "ValueError", .type "Exception", .type "BaseException", .type "object"] "ValueError.__new__" = true)
    (ek2 : PySem.W.keepIn K (.ref E2) = true)
    (es2 : PySem.W.subIn K (.ref E2) (.type "BaseException") = some true)
    (et2 : PySem.W.typeIn K (.ref E2) = some (.type "type"))
    (eg5 : PySem.W.nsIn K mainGlobals "NoOrder" = some (some (.ref E5)))
    (ex5 : PySem.W.excIn K E5 [.type "ValueError", .type "Exception", .type "BaseException", .type "object"] "ValueError.__new__" = true)
    (ek5 : PySem.W.keepIn K (.ref E5) = true)
    (es5 : PySem.W.subIn K (.ref E5) (.type "BaseException") = some true)
    (et5 : PySem.W.typeIn K (.ref E5) = some (.type "type"))
    (eg6 : PySem.W.nsIn K mainGlobals "NoPlaces" = some (some (.ref E6)))
    (ex6 : PySem.W.excIn K E6 [.type "ValueError", .type "Exception", .type "BaseException", .type "object"] "ValueError.__new__" = true)
    (ek6 : PySem.W.keepIn K (.ref E6) = true)
    (es6 : PySem.W.subIn K (.ref E6) (.type "BaseException") = some true)
    (et6 : PySem.W.typeIn K (.ref E6) = some (.type "type"))
    (eg8 : PySem.W.nsIn K mainGlobals "NoSpan" = some (some (.ref E8)))
    (ex8 : PySem.W.excIn K E8 [.type "ValueError", .type "Exception", .type "BaseException", .type "object"] "ValueError.__new__" = true)
    (ek8 : PySem.W.keepIn K (.ref E8) = true)
    (es8 : PySem.W.subIn K (.ref E8) (.type "BaseException") = some true)
    (et8 : PySem.W.typeIn K (.ref E8) = some (.type "type"))
    (eg7 : PySem.W.nsIn K mainGlobals "NoText" = some (some (.ref E7)))
    (ex7 : PySem.W.excIn K E7 [.type "ValueError", .type "Exception", .type "BaseException", .type "object"] "ValueError.__new__" = true)
    (ek7 : PySem.W.keepIn K (.ref E7) = true)
    (es7 : PySem.W.subIn K (.ref E7) (.type "BaseException") = some true)
    (et7 : PySem.W.typeIn K (.ref E7) = some (.type "type"))
    (eg3 : PySem.W.nsIn K mainGlobals "NoValue" = some (some (.ref E3)))
    (ex3 : PySem.W.excIn K E3 [.type "ValueError", .type "Exception", .type "BaseException", .type "object"] "ValueError.__new__" = true)
    (ek3 : PySem.W.keepIn K (.ref E3) = true)
    (es3 : PySem.W.subIn K (.ref E3) (.type "BaseException") = some true)
    (et3 : PySem.W.typeIn K (.ref E3) = some (.type "type"))
    (eg4 : PySem.W.nsIn K mainGlobals "NoWord" = some (some (.ref E4)))
    (ex4 : PySem.W.excIn K E4 [.type "ValueError", .type "Exception", .type "BaseException", .type "object"] "ValueError.__new__" = true)
    (ek4 : PySem.W.keepIn K (.ref E4) = true)
    (es4 : PySem.W.subIn K (.ref E4) (.type "BaseException") = some true)
    (et4 : PySem.W.typeIn K (.ref E4) = some (.type "type"))
    (eg1 : PySem.W.nsIn K mainGlobals "NoWords" = some (some (.ref E1)))
    (ex1 : PySem.W.excIn K E1 [.type "ValueError", .type "Exception", .type "BaseException", .type "object"] "ValueError.__new__" = true)
    (ek1 : PySem.W.keepIn K (.ref E1) = true)
    (es1 : PySem.W.subIn K (.ref E1) (.type "BaseException") = some true)
    (et1 : PySem.W.typeIn K (.ref E1) = some (.type "type"))
    (kk_MOST_BITS : PySem.W.nsIn K mainGlobals "MOST_BITS" = some (some (.int 5 t_MOST_BITS)))
    (kk_MOST_SPAN : PySem.W.nsIn K mainGlobals "MOST_SPAN" = some (some (.int 4 t_MOST_SPAN)))
    (kk_MOST_WORDS : PySem.W.nsIn K mainGlobals "MOST_WORDS" = some (some (.int 16 t_MOST_WORDS)))
    (tg_MANY : PySem.W.nsIn K mainGlobals "MANY" = some (some (.ref ta_MANY)))
    (tl_MANY : K.lookup ta_MANY = some ⟨.type "tuple", td_MANY, .seq ti_MANY tn_MANY, ts_MANY⟩)
    (tv_MANY : intsB [1, 2, 2, 4, 2, 4, 4, 8, 2, 4, 4, 8, 4, 8, 8, 16, 2, 4, 4, 8, 4, 8, 8, 16, 4, 8, 8, 16, 8, 16, 16, 32] ti_MANY.toList = true)
    (z_all : PySem.W.nsIn K mainGlobals "all" = some none)
    (z_bool : PySem.W.nsIn K mainGlobals "bool" = some none)
    (z_enumerate : PySem.W.nsIn K mainGlobals "enumerate" = some none)
    (z_int : PySem.W.nsIn K mainGlobals "int" = some none)
    (z_isinstance : PySem.W.nsIn K mainGlobals "isinstance" = some none)
    (z_len : PySem.W.nsIn K mainGlobals "len" = some none)
    (z_list : PySem.W.nsIn K mainGlobals "list" = some none)
    (z_max : PySem.W.nsIn K mainGlobals "max" = some none)
    (z_min : PySem.W.nsIn K mainGlobals "min" = some none)
    (z_range : PySem.W.nsIn K mainGlobals "range" = some none)
    (z_repr : PySem.W.nsIn K mainGlobals "repr" = some none)
    (z_set : PySem.W.nsIn K mainGlobals "set" = some none)
    (z_sorted : PySem.W.nsIn K mainGlobals "sorted" = some none)
    (z_str : PySem.W.nsIn K mainGlobals "str" = some none)
    (z_sum : PySem.W.nsIn K mainGlobals "sum" = some none)
    (z_tuple : PySem.W.nsIn K mainGlobals "tuple" = some none)
    (z_zip : PySem.W.nsIn K mainGlobals "zip" = some none) :
    ∃ (T : Tb), ∀ base : Heap, K.In base → base.Ns mainGlobals mg → EV.FnR l.prog w K mg base (L2.CX l.prog w) 11 fa (spF T K (fnRun 1 6 false b_law_k15)) := by
  have e := hfa.symm.trans (PySem.W.mg_of X G a60)
  cases e
  have F54 := fun_mk (st := s_law_cell_at) l54 c54 k54
  have F55 := fun_mk (st := s_law_pen) l55 c55 k55
  have F56 := fun_mk (st := s_law_draw) l56 c56 k56
  have F58 := fun_mk (st := s_law_pick) l58 c58 k58
  have F1 := fun_mk (st := s_is_between) l1 c1 k1
  have F2 := fun_mk (st := s_are_between) l2 c2 k2
  have F17 := fun_mk (st := s_is_word) l17 c17 k17
  have F18 := fun_mk (st := s_are_words) l18 c18 k18
  have F4 := fun_mk (st := s_Code_init) l4 c4 k4
  have F5 := fun_mk (st := s_Code_words) l5 c5 k5
  have F20 := fun_mk (st := s_check_value) l20 c20 k20
  have F8 := fun_mk (st := s_Code_call) l8 c8 k8
  have F6 := fun_mk (st := s_Code_bits) l6 c6 k6
  have F9 := fun_mk (st := s_Code_getitem) l9 c9 k9
  have F21 := fun_mk (st := s_spelled) l21 c21 k21
  have F15 := fun_mk (st := s_Code_text) l15 c15 k15
  have F22 := fun_mk (st := s_read_words) l22 c22 k22
  have F16 := fun_mk (st := s_Code_read) l16 c16 k16
  have F19 := fun_mk (st := s_check_code) l19 c19 k19
  have F23 := fun_mk (st := s_turned) l23 c23 k23
  have F0 := fun_mk (st := s_is_whole) l0 c0 k0
  have F24 := fun_mk (st := s_is_order) l24 c24 k24
  have F25 := fun_mk (st := s_moved) l25 c25 k25
  have F26 := fun_mk (st := s_renamed) l26 c26 k26
  have F27 := fun_mk (st := s_are_places) l27 c27 k27
  have F28 := fun_mk (st := s_exchanged) l28 c28 k28
  have F29 := fun_mk (st := s_flipped) l29 c29 k29
  have F7 := fun_mk (st := s_Code_len) l7 c7 k7
  have F13 := fun_mk (st := s_Code_neg) l13 c13 k13
  have F30 := fun_mk (st := s_column) l30 c30 k30
  have F31 := fun_mk (st := s_fitting_order) l31 c31 k31
  have F32 := fun_mk (st := s_fitting_places) l32 c32 k32
  have F33 := fun_mk (st := s_alike) l33 c33 k33
  have F34 := fun_mk (st := s_window_of) l34 c34 k34
  have F35 := fun_mk (st := s_mixtures) l35 c35 k35
  have F36 := fun_mk (st := s_seen) l36 c36 k36
  have F37 := fun_mk (st := s_mixes) l37 c37 k37
  have F38 := fun_mk (st := s_changes) l38 c38 k38
  have F39 := fun_mk (st := s_is_single) l39 c39 k39
  have F3 := fun_mk (st := s_check_span) l3 c3 k3
  have F40 := fun_mk (st := s_readings) l40 c40 k40
  have F41 := fun_mk (st := s_numbers_of) l41 c41 k41
  have F44 := fun_mk (st := s_gaps_from) l44 c44 k44
  have F42 := fun_mk (st := s_fixed_and_free) l42 c42 k42
  have F43 := fun_mk (st := s_seen_values) l43 c43 k43
  have F45 := fun_mk (st := s_all_off) l45 c45 k45
  have F46 := fun_mk (st := s_most_off) l46 c46 k46
  have F47 := fun_mk (st := s_off) l47 c47 k47
  have F48 := fun_mk (st := s_far_off) l48 c48 k48
  have F52 := fun_mk (st := s_holes_at) l52 c52 k52
  have F53 := fun_mk (st := s_holes) l53 c53 k53
  have F11 := fun_mk (st := s_Code_contains) l11 c11 k11
  have F49 := fun_mk (st := s_off_by) l49 c49 k49
  have F50 := fun_mk (st := s_shows_off) l50 c50 k50
  have F51 := fun_mk (st := s_tolerance) l51 c51 k51
  have F57 := fun_mk (st := s_law_same) l57 c57 k57
  have F59 := fun_mk (st := s_law_right) l59 c59 k59
  have F60 := fun_mk (st := s_law) l60 c60 k60
  let ad : Nat → Addr := fun i => if i = 54 then f54 else if i = 55 then f55 else if i = 56 then f56 else if i = 58 then f58 else if i = 1 then f1 else if i = 2 then f2 else if i = 17 then f17 else if i = 18 then f18 else if i = 4 then f4 else if i = 5 then f5 else if i = 20 then f20 else if i = 8 then f8 else if i = 6 then f6 else if i = 9 then f9 else if i = 21 then f21 else if i = 15 then f15 else if i = 22 then f22 else if i = 16 then f16 else if i = 19 then f19 else if i = 23 then f23 else if i = 0 then f0 else if i = 24 then f24 else if i = 25 then f25 else if i = 26 then f26 else if i = 27 then f27 else if i = 28 then f28 else if i = 29 then f29 else if i = 7 then f7 else if i = 13 then f13 else if i = 30 then f30 else if i = 31 then f31 else if i = 32 then f32 else if i = 33 then f33 else if i = 34 then f34 else if i = 35 then f35 else if i = 36 then f36 else if i = 37 then f37 else if i = 38 then f38 else if i = 39 then f39 else if i = 3 then f3 else if i = 40 then f40 else if i = 41 then f41 else if i = 44 then f44 else if i = 42 then f42 else if i = 43 then f43 else if i = 45 then f45 else if i = 46 then f46 else if i = 47 then f47 else if i = 48 then f48 else if i = 52 then f52 else if i = 53 then f53 else if i = 11 then f11 else if i = 49 then f49 else if i = 50 then f50 else if i = 51 then f51 else if i = 57 then f57 else if i = 59 then f59 else if i = 60 then fa else 0
  let T : Tb := { cls := fun c => if c = 0 then C0 else 0, nms := fun c => if c = 0 then ["_words", "_numbers", "windows"] else [], exc := fun c => if c = 2 then .ref E2 else if c = 5 then .ref E5 else if c = 6 then .ref E6 else if c = 8 then .ref E8 else if c = 7 then .ref E7 else if c = 3 then .ref E3 else if c = 4 then .ref E4 else if c = 1 then .ref E1 else .none, xnm := fun _ => [], fns := fun i => if i = 1000 then C0 else 0, memo := fun _ => memoV }
  have B : Base K mg T ad := {
    F_law_cell_at := ⟨_, F54⟩
    g_law_cell_at := PySem.W.mg_of X G a54
    F_law_pen := ⟨_, F55⟩
    g_law_pen := PySem.W.mg_of X G a55
    F_law_draw := ⟨_, F56⟩
    g_law_draw := PySem.W.mg_of X G a56
    F_law_pick := ⟨_, F58⟩
    g_law_pick := PySem.W.mg_of X G a58
    F_is_between := ⟨_, F1⟩
    g_is_between := PySem.W.mg_of X G a1
    F_are_between := ⟨_, F2⟩
    g_are_between := PySem.W.mg_of X G a2
    F_is_word := ⟨_, F17⟩
    g_is_word := PySem.W.mg_of X G a17
    F_are_words := ⟨_, F18⟩
    g_are_words := PySem.W.mg_of X G a18
    F_Code_init := ⟨_, F4⟩
    m_Code_init := ⟨⟨mk0, a4, fn4, kc0⟩, PySem.W.mg_of X G aC0⟩
    F_Code_words := ⟨_, F5⟩
    p_Code_words := ⟨_, ⟨a5, ge5, ta5, ⟨_, re5⟩⟩⟩
    F_check_value := ⟨_, F20⟩
    g_check_value := PySem.W.mg_of X G a20
    F_Code_call := ⟨_, F8⟩
    s_Code_call := ⟨a8, fn8, fi8⟩
    F_Code_bits := ⟨_, F6⟩
    p_Code_bits := ⟨_, ⟨a6, ge6, ta6, ⟨_, re6⟩⟩⟩
    F_Code_getitem := ⟨_, F9⟩
    s_Code_getitem := ⟨a9, fn9, fi9⟩
    F_spelled := ⟨_, F21⟩
    g_spelled := PySem.W.mg_of X G a21
    F_Code_text := ⟨_, F15⟩
    h_Code_text := ⟨a15, fn15, k15⟩
    F_read_words := ⟨_, F22⟩
    g_read_words := PySem.W.mg_of X G a22
    F_Code_read := ⟨_, F16⟩
    c_Code_read := ⟨⟨.type "type", _, ⟨rd16, ga16⟩, ⟨a16, ⟨_, rc16⟩, fi16⟩⟩, PySem.W.mg_of X G aC0, rfl⟩
    F_check_code := ⟨_, F19⟩
    g_check_code := PySem.W.mg_of X G a19
    F_turned := ⟨_, F23⟩
    g_turned := PySem.W.mg_of X G a23
    F_is_whole := ⟨_, F0⟩
    g_is_whole := PySem.W.mg_of X G a0
    F_is_order := ⟨_, F24⟩
    g_is_order := PySem.W.mg_of X G a24
    F_moved := ⟨_, F25⟩
    g_moved := PySem.W.mg_of X G a25
    F_renamed := ⟨_, F26⟩
    g_renamed := PySem.W.mg_of X G a26
    F_are_places := ⟨_, F27⟩
    g_are_places := PySem.W.mg_of X G a27
    F_exchanged := ⟨_, F28⟩
    g_exchanged := PySem.W.mg_of X G a28
    F_flipped := ⟨_, F29⟩
    g_flipped := PySem.W.mg_of X G a29
    F_Code_len := ⟨_, F7⟩
    s_Code_len := ⟨a7, fn7, fi7⟩
    F_Code_neg := ⟨_, F13⟩
    s_Code_neg := ⟨a13, fn13, fi13⟩
    F_column := ⟨_, F30⟩
    g_column := PySem.W.mg_of X G a30
    F_fitting_order := ⟨_, F31⟩
    g_fitting_order := PySem.W.mg_of X G a31
    F_fitting_places := ⟨_, F32⟩
    g_fitting_places := PySem.W.mg_of X G a32
    F_alike := ⟨_, F33⟩
    g_alike := PySem.W.mg_of X G a33
    F_window_of := ⟨_, F34⟩
    g_window_of := PySem.W.mg_of X G a34
    F_mixtures := ⟨_, F35⟩
    g_mixtures := PySem.W.mg_of X G a35
    F_seen := ⟨_, F36⟩
    g_seen := PySem.W.mg_of X G a36
    F_mixes := ⟨_, F37⟩
    g_mixes := PySem.W.mg_of X G a37
    F_changes := ⟨_, F38⟩
    g_changes := PySem.W.mg_of X G a38
    F_is_single := ⟨_, F39⟩
    g_is_single := PySem.W.mg_of X G a39
    F_check_span := ⟨_, F3⟩
    g_check_span := PySem.W.mg_of X G a3
    F_readings := ⟨_, F40⟩
    g_readings := PySem.W.mg_of X G a40
    F_numbers_of := ⟨_, F41⟩
    g_numbers_of := PySem.W.mg_of X G a41
    F_gaps_from := ⟨_, F44⟩
    g_gaps_from := PySem.W.mg_of X G a44
    F_fixed_and_free := ⟨_, F42⟩
    g_fixed_and_free := PySem.W.mg_of X G a42
    F_seen_values := ⟨_, F43⟩
    g_seen_values := PySem.W.mg_of X G a43
    F_all_off := ⟨_, F45⟩
    g_all_off := PySem.W.mg_of X G a45
    F_most_off := ⟨_, F46⟩
    g_most_off := PySem.W.mg_of X G a46
    F_off := ⟨_, F47⟩
    g_off := PySem.W.mg_of X G a47
    F_far_off := ⟨_, F48⟩
    g_far_off := PySem.W.mg_of X G a48
    F_holes_at := ⟨_, F52⟩
    g_holes_at := PySem.W.mg_of X G a52
    F_holes := ⟨_, F53⟩
    g_holes := PySem.W.mg_of X G a53
    F_Code_contains := ⟨_, F11⟩
    s_Code_contains := ⟨a11, fn11, fi11⟩
    F_off_by := ⟨_, F49⟩
    g_off_by := PySem.W.mg_of X G a49
    F_shows_off := ⟨_, F50⟩
    g_shows_off := PySem.W.mg_of X G a50
    F_tolerance := ⟨_, F51⟩
    g_tolerance := PySem.W.mg_of X G a51
    F_law_same := ⟨_, F57⟩
    g_law_same := PySem.W.mg_of X G a57
    F_law_right := ⟨_, F59⟩
    g_law_right := PySem.W.mg_of X G a59
    F_law := ⟨_, F60⟩
    g_law := PySem.W.mg_of X G a60
    n_all := PySem.W.mg_none_of X G z_all
    n_bool := PySem.W.mg_none_of X G z_bool
    n_enumerate := PySem.W.mg_none_of X G z_enumerate
    n_int := PySem.W.mg_none_of X G z_int
    n_isinstance := PySem.W.mg_none_of X G z_isinstance
    n_len := PySem.W.mg_none_of X G z_len
    n_list := PySem.W.mg_none_of X G z_list
    n_max := PySem.W.mg_none_of X G z_max
    n_min := PySem.W.mg_none_of X G z_min
    n_range := PySem.W.mg_none_of X G z_range
    n_repr := PySem.W.mg_none_of X G z_repr
    n_set := PySem.W.mg_none_of X G z_set
    n_sorted := PySem.W.mg_none_of X G z_sorted
    n_str := PySem.W.mg_none_of X G z_str
    n_sum := PySem.W.mg_none_of X G z_sum
    n_tuple := PySem.W.mg_none_of X G z_tuple
    n_zip := PySem.W.mg_none_of X G z_zip
    k_MOST_BITS := ⟨_, PySem.W.mg_of X G kk_MOST_BITS⟩
    k_MOST_SPAN := ⟨_, PySem.W.mg_of X G kk_MOST_SPAN⟩
    k_MOST_WORDS := ⟨_, PySem.W.mg_of X G kk_MOST_WORDS⟩
    t_MANY := ⟨_, PySem.W.mg_of X G tg_MANY, _, _, _, tl_MANY, rfl, rfl, intsB_len tv_MANY (by decide), intsB_ok tv_MANY⟩
    c_Code := ⟨⟨pg0, hd0, po0, sa0⟩, (fun f hf => by
      have hf : f ∈ (["_words", "_numbers", "windows"] : List Str) := hf
      simp only [List.mem_cons, List.not_mem_nil, or_false] at hf
      rcases hf with rfl | rfl | rfl
      · exact no0_0
      · exact no0_1
      · exact no0_2), (by show (["_words", "_numbers", "windows"] : List Str).Nodup; decide), (by show (["_words", "_numbers", "windows"] : List Str).length < 1000; decide)⟩
    nm_Code := rfl
    i_Code := ⟨ia0, in0, it0, im0, fun t ht => by
      simp only [List.mem_cons, List.not_mem_nil, or_false] at ht
      rcases ht with rfl | rfl | rfl | rfl | rfl | rfl | rfl
      · exact ik0_NoneType
      · exact ik0_bool
      · exact ik0_int
      · exact ik0_str
      · exact ik0_tuple
      · exact ik0_list
      · exact ik0_dict⟩
    mg_Code := PySem.W.mg_of X G aC0
    e_NoCode := ⟨_, rfl, ⟨_, _, _, _, PySem.F.excBase_ValueError, ex2⟩, PySem.W.mg_of X G eg2, ek2, es2, et2⟩
    e_NoOrder := ⟨_, rfl, ⟨_, _, _, _, PySem.F.excBase_ValueError, ex5⟩, PySem.W.mg_of X G eg5, ek5, es5, et5⟩
    e_NoPlaces := ⟨_, rfl, ⟨_, _, _, _, PySem.F.excBase_ValueError, ex6⟩, PySem.W.mg_of X G eg6, ek6, es6, et6⟩
    e_NoSpan := ⟨_, rfl, ⟨_, _, _, _, PySem.F.excBase_ValueError, ex8⟩, PySem.W.mg_of X G eg8, ek8, es8, et8⟩
    e_NoText := ⟨_, rfl, ⟨_, _, _, _, PySem.F.excBase_ValueError, ex7⟩, PySem.W.mg_of X G eg7, ek7, es7, et7⟩
    e_NoValue := ⟨_, rfl, ⟨_, _, _, _, PySem.F.excBase_ValueError, ex3⟩, PySem.W.mg_of X G eg3, ek3, es3, et3⟩
    e_NoWord := ⟨_, rfl, ⟨_, _, _, _, PySem.F.excBase_ValueError, ex4⟩, PySem.W.mg_of X G eg4, ek4, es4, et4⟩
    e_NoWords := ⟨_, rfl, ⟨_, _, _, _, PySem.F.excBase_ValueError, ex1⟩, PySem.W.mg_of X G eg1, ek1, es1, et1⟩
    memo := rfl
    }
  exact ⟨T, fun base _ _ => r_law B⟩
/-- .. as the end asks it -/
def LawTrue : Prop := ∀ ns : List Int, ns.length ≤ 63 → ∃ h2, fnRun 1 6 false b_law_k15 [.p (.scr (ns.map .int))] [] = some (.ok (.p (.bl true)), h2)
theorem all_law {l : PySem.W.OpenLaw} {w : World} {K : PySem.W.Frag} {h : Heap} {mg : Str → Option Value} {fa : Addr} (HT : LawTrue) (X : K.In h) (G : h.Ns mainGlobals mg) (hfa : mg "law" = some (.ref fa))
    {C0 : Addr} {f54 : Addr} {od54 an54 : Option Addr} {sl54 : Array (Option Value)} {oc54 kV54 dc54 pm54 cd54 ct54 : Value} {f55 : Addr} {od55 an55 : Option Addr} {sl55 : Array (Option Value)} {oc55 kV55 dc55 pm55 cd55 ct55 : Value} {f56 : Addr} {od56 an56 : Option Addr} {sl56 : Array (Option Value)} {oc56 kV56 dc56 pm56 cd56 ct56 : Value} {f58 : Addr} {od58 an58 : Option Addr} {sl58 : Array (Option Value)} {oc58 kV58 dc58 pm58 cd58 ct58 : Value} {f1 : Addr} {od1 an1 : Option Addr} {sl1 : Array (Option Value)} {oc1 kV1 dc1 pm1 cd1 ct1 : Value} {f2 : Addr} {od2 an2 : Option Addr} {sl2 : Array (Option Value)} {oc2 kV2 dc2 pm2 cd2 ct2 : Value} {f17 : Addr} {od17 an17 : Option Addr} {sl17 : Array (Option Value)} {oc17 kV17 dc17 pm17 cd17 ct17 : Value} {f18 : Addr} {od18 an18 : Option Addr} {sl18 : Array (Option Value)} {oc18 kV18 dc18 pm18 cd18 ct18 : Value} {f4 : Addr} {od4 an4 : Option Addr} {sl4 : Array (Option Value)} {oc4 kV4 dc4 pm4 cd4 ct4 : Value} {f5 : Addr} {od5 an5 : Option Addr} {sl5 : Array (Option Value)} {oc5 kV5 dc5 pm5 cd5 ct5 : Value} {p5 : Addr} {rest5 : List Value} {f20 : Addr} {od20 an20 : Option Addr} {sl20 : Array (Option Value)} {oc20 kV20 dc20 pm20 cd20 ct20 : Value} {f8 : Addr} {od8 an8 : Option Addr} {sl8 : Array (Option Value)} {oc8 kV8 dc8 pm8 cd8 ct8 : Value} {f6 : Addr} {od6 an6 : Option Addr} {sl6 : Array (Option Value)} {oc6 kV6 dc6 pm6 cd6 ct6 : Value} {p6 : Addr} {rest6 : List Value} {f9 : Addr} {od9 an9 : Option Addr} {sl9 : Array (Option Value)} {oc9 kV9 dc9 pm9 cd9 ct9 : Value} {f21 : Addr} {od21 an21 : Option Addr} {sl21 : Array (Option Value)} {oc21 kV21 dc21 pm21 cd21 ct21 : Value} {f15 : Addr} {od15 an15 : Option Addr} {sl15 : Array (Option Value)} {oc15 kV15 dc15 pm15 cd15 ct15 : Value} {f22 : Addr} {od22 an22 : Option Addr} {sl22 : Array (Option Value)} {oc22 kV22 dc22 pm22 cd22 ct22 : Value} {f16 : Addr} {od16 an16 : Option Addr} {sl16 : Array (Option Value)} {oc16 kV16 dc16 pm16 cd16 ct16 : Value} {p16 : Addr} {rest16 : List Value} {f19 : Addr} {od19 an19 : Option Addr} {sl19 : Array (Option Value)} {oc19 kV19 dc19 pm19 cd19 ct19 : Value} {f23 : Addr} {od23 an23 : Option Addr} {sl23 : Array (Option Value)} {oc23 kV23 dc23 pm23 cd23 ct23 : Value} {f0 : Addr} {od0 an0 : Option Addr} {sl0 : Array (Option Value)} {oc0 kV0 dc0 pm0 cd0 ct0 : Value} {f24 : Addr} {od24 an24 : Option Addr} {sl24 : Array (Option Value)} {oc24 kV24 dc24 pm24 cd24 ct24 : Value} {f25 : Addr} {od25 an25 : Option Addr} {sl25 : Array (Option Value)} {oc25 kV25 dc25 pm25 cd25 ct25 : Value} {f26 : Addr} {od26 an26 : Option Addr} {sl26 : Array (Option Value)} {oc26 kV26 dc26 pm26 cd26 ct26 : Value} {f27 : Addr} {od27 an27 : Option Addr} {sl27 : Array (Option Value)} {oc27 kV27 dc27 pm27 cd27 ct27 : Value} {f28 : Addr} {od28 an28 : Option Addr} {sl28 : Array (Option Value)} {oc28 kV28 dc28 pm28 cd28 ct28 : Value} {f29 : Addr} {od29 an29 : Option Addr} {sl29 : Array (Option Value)} {oc29 kV29 dc29 pm29 cd29 ct29 : Value} {f7 : Addr} {od7 an7 : Option Addr} {sl7 : Array (Option Value)} {oc7 kV7 dc7 pm7 cd7 ct7 : Value} {f13 : Addr} {od13 an13 : Option Addr} {sl13 : Array (Option Value)} {oc13 kV13 dc13 pm13 cd13 ct13 : Value} {f30 : Addr} {od30 an30 : Option Addr} {sl30 : Array (Option Value)} {oc30 kV30 dc30 pm30 cd30 ct30 : Value} {f31 : Addr} {od31 an31 : Option Addr} {sl31 : Array (Option Value)} {oc31 kV31 dc31 pm31 cd31 ct31 : Value} {f32 : Addr} {od32 an32 : Option Addr} {sl32 : Array (Option Value)} {oc32 kV32 dc32 pm32 cd32 ct32 : Value} {f33 : Addr} {od33 an33 : Option Addr} {sl33 : Array (Option Value)} {oc33 kV33 dc33 pm33 cd33 ct33 : Value} {f34 : Addr} {od34 an34 : Option Addr} {sl34 : Array (Option Value)} {oc34 kV34 dc34 pm34 cd34 ct34 : Value} {f35 : Addr} {od35 an35 : Option Addr} {sl35 : Array (Option Value)} {oc35 kV35 dc35 pm35 cd35 ct35 : Value} {f36 : Addr} {od36 an36 : Option Addr} {sl36 : Array (Option Value)} {oc36 kV36 dc36 pm36 cd36 ct36 : Value} {f37 : Addr} {od37 an37 : Option Addr} {sl37 : Array (Option Value)} {oc37 kV37 dc37 pm37 cd37 ct37 : Value} {f38 : Addr} {od38 an38 : Option Addr} {sl38 : Array (Option Value)} {oc38 kV38 dc38 pm38 cd38 ct38 : Value} {f39 : Addr} {od39 an39 : Option Addr} {sl39 : Array (Option Value)} {oc39 kV39 dc39 pm39 cd39 ct39 : Value} {f3 : Addr} {od3 an3 : Option Addr} {sl3 : Array (Option Value)} {oc3 kV3 dc3 pm3 cd3 ct3 : Value} {f40 : Addr} {od40 an40 : Option Addr} {sl40 : Array (Option Value)} {oc40 kV40 dc40 pm40 cd40 ct40 : Value} {f41 : Addr} {od41 an41 : Option Addr} {sl41 : Array (Option Value)} {oc41 kV41 dc41 pm41 cd41 ct41 : Value} {f44 : Addr} {od44 an44 : Option Addr} {sl44 : Array (Option Value)} {oc44 kV44 dc44 pm44 cd44 ct44 : Value} {f42 : Addr} {od42 an42 : Option Addr} {sl42 : Array (Option Value)} {oc42 kV42 dc42 pm42 cd42 ct42 : Value} {f43 : Addr} {od43 an43 : Option Addr} {sl43 : Array (Option Value)} {oc43 kV43 dc43 pm43 cd43 ct43 : Value} {f45 : Addr} {od45 an45 : Option Addr} {sl45 : Array (Option Value)} {oc45 kV45 dc45 pm45 cd45 ct45 : Value} {f46 : Addr} {od46 an46 : Option Addr} {sl46 : Array (Option Value)} {oc46 kV46 dc46 pm46 cd46 ct46 : Value} {f47 : Addr} {od47 an47 : Option Addr} {sl47 : Array (Option Value)} {oc47 kV47 dc47 pm47 cd47 ct47 : Value} {f48 : Addr} {od48 an48 : Option Addr} {sl48 : Array (Option Value)} {oc48 kV48 dc48 pm48 cd48 ct48 : Value} {f52 : Addr} {od52 an52 : Option Addr} {sl52 : Array (Option Value)} {oc52 kV52 dc52 pm52 cd52 ct52 : Value} {f53 : Addr} {od53 an53 : Option Addr} {sl53 : Array (Option Value)} {oc53 kV53 dc53 pm53 cd53 ct53 : Value} {f11 : Addr} {od11 an11 : Option Addr} {sl11 : Array (Option Value)} {oc11 kV11 dc11 pm11 cd11 ct11 : Value} {f49 : Addr} {od49 an49 : Option Addr} {sl49 : Array (Option Value)} {oc49 kV49 dc49 pm49 cd49 ct49 : Value} {f50 : Addr} {od50 an50 : Option Addr} {sl50 : Array (Option Value)} {oc50 kV50 dc50 pm50 cd50 ct50 : Value} {f51 : Addr} {od51 an51 : Option Addr} {sl51 : Array (Option Value)} {oc51 kV51 dc51 pm51 cd51 ct51 : Value} {f57 : Addr} {od57 an57 : Option Addr} {sl57 : Array (Option Value)} {oc57 kV57 dc57 pm57 cd57 ct57 : Value} {f59 : Addr} {od59 an59 : Option Addr} {sl59 : Array (Option Value)} {oc59 kV59 dc59 pm59 cd59 ct59 : Value} {f60 : Addr} {od60 an60 : Option Addr} {sl60 : Array (Option Value)} {oc60 kV60 dc60 pm60 cd60 ct60 : Value} {E2 : Addr} {E5 : Addr} {E6 : Addr} {E8 : Addr} {E7 : Addr} {E3 : Addr} {E4 : Addr} {E1 : Addr} {t_MOST_BITS : Tok} {t_MOST_SPAN : Tok} {t_MOST_WORDS : Tok} {ta_MANY : Addr} {td_MANY : Option Addr} {ti_MANY : Array Value} {tn_MANY : Nat} {ts_MANY : Array (Option Value)}
    (aC0 : PySem.W.nsIn K mainGlobals "Code" = some (some (.ref C0)))
    (pg0 : PySem.W.plainGet K C0 Str.empty = true)
    (hd0 : PySem.W.hasDictIn K C0 = true)
    (po0 : PySem.W.plainOver K C0 = true)
    (sa0 : PySem.W.findIn K (.ref C0) "__setattr__" = some (some (.builtin "object.__setattr__")))
    (mk0 : PySem.W.makesIn K C0 = true)
    (kc0 : PySem.W.keepIn K (.ref C0) = true)
    (no0_0 : PySem.W.findIn K (.ref C0) "_words" = some none)
    (no0_1 : PySem.W.findIn K (.ref C0) "_numbers" = some none)
    (no0_2 : PySem.W.findIn K (.ref C0) "windows" = some none)
    (ia0 : PySem.W.findIn K (.ref C0) "__class__" = some (some (.builtin "object.__class__")))
    (in0 : PySem.W.specialIn K (.builtin "object.__class__") "__get__" = some (some (.builtin "getset_descriptor.__get__")))
    (it0 : PySem.W.takesIn K (.builtin "object.__class__") = some true)
    (im0 : PySem.W.mroIn K C0 (.type "object") = some true)
    (ik0_NoneType : PySem.W.kitOne K (.type "NoneType") (.ref C0) = some false)
    (ik0_bool : PySem.W.kitOne K (.type "bool") (.ref C0) = some false)
    (ik0_int : PySem.W.kitOne K (.type "int") (.ref C0) = some false)
    (ik0_str : PySem.W.kitOne K (.type "str") (.ref C0) = some false)
    (ik0_tuple : PySem.W.kitOne K (.type "tuple") (.ref C0) = some false)
    (ik0_list : PySem.W.kitOne K (.type "list") (.ref C0) = some false)
    (ik0_dict : PySem.W.kitOne K (.type "dict") (.ref C0) = some false)
    (a54 : PySem.W.nsIn K mainGlobals "_law_cell_at" = some (some (.ref f54)))
    (l54 : K.lookup f54 = some ⟨oc54, od54, .func (PySem.W.fnOf "_law_cell_at" "_law_cell_at" (defArgs s_law_cell_at) (defBody s_law_cell_at) (defScope s_law_cell_at) .none kV54 dc54 pm54 an54 cd54 ct54), sl54⟩)
    (c54 : PySem.W.codeIn K cd54 "_law_cell_at" = true)
    (k54 : PySem.W.keepIn K (.ref f54) = true)
    (a55 : PySem.W.nsIn K mainGlobals "_law_pen" = some (some (.ref f55)))
    (l55 : K.lookup f55 = some ⟨oc55, od55, .func (PySem.W.fnOf "_law_pen" "_law_pen" (defArgs s_law_pen) (defBody s_law_pen) (defScope s_law_pen) .none kV55 dc55 pm55 an55 cd55 ct55), sl55⟩)
    (c55 : PySem.W.codeIn K cd55 "_law_pen" = true)
    (k55 : PySem.W.keepIn K (.ref f55) = true)
    (a56 : PySem.W.nsIn K mainGlobals "_law_draw" = some (some (.ref f56)))
    (l56 : K.lookup f56 = some ⟨oc56, od56, .func (PySem.W.fnOf "_law_draw" "_law_draw" (defArgs s_law_draw) (defBody s_law_draw) (defScope s_law_draw) .none kV56 dc56 pm56 an56 cd56 ct56), sl56⟩)
    (c56 : PySem.W.codeIn K cd56 "_law_draw" = true)
    (k56 : PySem.W.keepIn K (.ref f56) = true)
    (a58 : PySem.W.nsIn K mainGlobals "_law_pick" = some (some (.ref f58)))
    (l58 : K.lookup f58 = some ⟨oc58, od58, .func (PySem.W.fnOf "_law_pick" "_law_pick" (defArgs s_law_pick) (defBody s_law_pick) (defScope s_law_pick) .none kV58 dc58 pm58 an58 cd58 ct58), sl58⟩)
    (c58 : PySem.W.codeIn K cd58 "_law_pick" = true)
    (k58 : PySem.W.keepIn K (.ref f58) = true)
    (a1 : PySem.W.nsIn K mainGlobals "is_between" = some (some (.ref f1)))
    (l1 : K.lookup f1 = some ⟨oc1, od1, .func (PySem.W.fnOf "is_between" "is_between" (defArgs s_is_between) (defBody s_is_between) (defScope s_is_between) .none kV1 dc1 pm1 an1 cd1 ct1), sl1⟩)
    (c1 : PySem.W.codeIn K cd1 "is_between" = true)
    (k1 : PySem.W.keepIn K (.ref f1) = true)
    (a2 : PySem.W.nsIn K mainGlobals "are_between" = some (some (.ref f2)))
    (l2 : K.lookup f2 = some ⟨oc2, od2, .func (PySem.W.fnOf "are_between" "are_between" (defArgs s_are_between) (defBody s_are_between) (defScope s_are_between) .none kV2 dc2 pm2 an2 cd2 ct2), sl2⟩)
    (c2 : PySem.W.codeIn K cd2 "are_between" = true)
    (k2 : PySem.W.keepIn K (.ref f2) = true)
    (a17 : PySem.W.nsIn K mainGlobals "is_word" = some (some (.ref f17)))
    (l17 : K.lookup f17 = some ⟨oc17, od17, .func (PySem.W.fnOf "is_word" "is_word" (defArgs s_is_word) (defBody s_is_word) (defScope s_is_word) .none kV17 dc17 pm17 an17 cd17 ct17), sl17⟩)
    (c17 : PySem.W.codeIn K cd17 "is_word" = true)
    (k17 : PySem.W.keepIn K (.ref f17) = true)
    (a18 : PySem.W.nsIn K mainGlobals "are_words" = some (some (.ref f18)))
    (l18 : K.lookup f18 = some ⟨oc18, od18, .func (PySem.W.fnOf "are_words" "are_words" (defArgs s_are_words) (defBody s_are_words) (defScope s_are_words) .none kV18 dc18 pm18 an18 cd18 ct18), sl18⟩)
    (c18 : PySem.W.codeIn K cd18 "are_words" = true)
    (k18 : PySem.W.keepIn K (.ref f18) = true)
    (a4 : PySem.W.findIn K (.ref C0) "__init__" = some (some (.ref f4)))
    (fn4 : PySem.W.isFn K (.ref f4) = true)
    (l4 : K.lookup f4 = some ⟨oc4, od4, .func (PySem.W.fnOf "__init__" "Code.__init__" (defArgs s_Code_init) (defBody s_Code_init) (defScope s_Code_init) .none kV4 dc4 pm4 an4 cd4 ct4), sl4⟩)
    (c4 : PySem.W.codeIn K cd4 "Code.__init__" = true)
    (k4 : PySem.W.keepIn K (.ref f4) = true)
    (a5 : PySem.W.findIn K (.ref C0) "words" = some (some (.ref p5)))
    (ge5 : PySem.W.specialIn K (.ref p5) "__get__" = some (some (.builtin "property.__get__")))
    (ta5 : PySem.W.takesIn K (.ref p5) = some true)
    (re5 : PySem.W.recIn K p5 "property" = some (.ref f5 :: rest5))
    (l5 : K.lookup f5 = some ⟨oc5, od5, .func (PySem.W.fnOf "words" "Code.words" (defArgs s_Code_words) (defBody s_Code_words) (defScope s_Code_words) .none kV5 dc5 pm5 an5 cd5 ct5), sl5⟩)
    (c5 : PySem.W.codeIn K cd5 "Code.words" = true)
    (k5 : PySem.W.keepIn K (.ref f5) = true)
    (a20 : PySem.W.nsIn K mainGlobals "check_value" = some (some (.ref f20)))
    (l20 : K.lookup f20 = some ⟨oc20, od20, .func (PySem.W.fnOf "check_value" "check_value" (defArgs s_check_value) (defBody s_check_value) (defScope s_check_value) .none kV20 dc20 pm20 an20 cd20 ct20), sl20⟩)
    (c20 : PySem.W.codeIn K cd20 "check_value" = true)
    (k20 : PySem.W.keepIn K (.ref f20) = true)
    (a8 : PySem.W.findIn K (.ref C0) "__call__" = some (some (.ref f8)))
    (fn8 : PySem.W.isFn K (.ref f8) = true)
    (fi8 : PySem.W.fnIn K f8 = true)
    (l8 : K.lookup f8 = some ⟨oc8, od8, .func (PySem.W.fnOf "__call__" "Code.__call__" (defArgs s_Code_call) (defBody s_Code_call) (defScope s_Code_call) .none kV8 dc8 pm8 an8 cd8 ct8), sl8⟩)
    (c8 : PySem.W.codeIn K cd8 "Code.__call__" = true)
    (k8 : PySem.W.keepIn K (.ref f8) = true)
    (a6 : PySem.W.findIn K (.ref C0) "bits" = some (some (.ref p6)))
    (ge6 : PySem.W.specialIn K (.ref p6) "__get__" = some (some (.builtin "property.__get__")))
    (ta6 : PySem.W.takesIn K (.ref p6) = some true)
    (re6 : PySem.W.recIn K p6 "property" = some (.ref f6 :: rest6))
    (l6 : K.lookup f6 = some ⟨oc6, od6, .func (PySem.W.fnOf "bits" "Code.bits" (defArgs s_Code_bits) (defBody s_Code_bits) (defScope s_Code_bits) .none kV6 dc6 pm6 an6 cd6 ct6), sl6⟩)
    (c6 : PySem.W.codeIn K cd6 "Code.bits" = true)
    (k6 : PySem.W.keepIn K (.ref f6) = true)
    (a9 : PySem.W.findIn K (.ref C0) "__getitem__" = some (some (.ref f9)))
    (fn9 : PySem.W.isFn K (.ref f9) = true)
    (fi9 : PySem.W.fnIn K f9 = true)
    (l9 : K.lookup f9 = some ⟨oc9, od9, .func (PySem.W.fnOf "__getitem__" "Code.__getitem__" (defArgs s_Code_getitem) (defBody s_Code_getitem) (defScope s_Code_getitem) .none kV9 dc9 pm9 an9 cd9 ct9), sl9⟩)
    (c9 : PySem.W.codeIn K cd9 "Code.__getitem__" = true)
    (k9 : PySem.W.keepIn K (.ref f9) = true)
    (a21 : PySem.W.nsIn K mainGlobals "spelled" = some (some (.ref f21)))
    (l21 : K.lookup f21 = some ⟨oc21, od21, .func (PySem.W.fnOf "spelled" "spelled" (defArgs s_spelled) (defBody s_spelled) (defScope s_spelled) .none kV21 dc21 pm21 an21 cd21 ct21), sl21⟩)
    (c21 : PySem.W.codeIn K cd21 "spelled" = true)
    (k21 : PySem.W.keepIn K (.ref f21) = true)
    (a15 : PySem.W.findIn K (.ref C0) "text" = some (some (.ref f15)))
    (fn15 : PySem.W.isFn K (.ref f15) = true)
    (l15 : K.lookup f15 = some ⟨oc15, od15, .func (PySem.W.fnOf "text" "Code.text" (defArgs s_Code_text) (defBody s_Code_text) (defScope s_Code_text) .none kV15 dc15 pm15 an15 cd15 ct15), sl15⟩)
    (c15 : PySem.W.codeIn K cd15 "Code.text" = true)
    (k15 : PySem.W.keepIn K (.ref f15) = true)
    (a22 : PySem.W.nsIn K mainGlobals "read_words" = some (some (.ref f22)))
    (l22 : K.lookup f22 = some ⟨oc22, od22, .func (PySem.W.fnOf "read_words" "read_words" (defArgs s_read_words) (defBody s_read_words) (defScope s_read_words) .none kV22 dc22 pm22 an22 cd22 ct22), sl22⟩)
    (c22 : PySem.W.codeIn K cd22 "read_words" = true)
    (k22 : PySem.W.keepIn K (.ref f22) = true)
    (rd16 : PySem.W.readsIn K C0 (.type "type") = true)
    (ga16 : PySem.W.specialIn K (.ref C0) "__getattribute__" = some (some (.builtin "type.__getattribute__")))
    (a16 : PySem.W.findCls K (.ref C0) (.type "type") "read" = some (.get (.builtin "classmethod.__get__") (.ref p16) .none (.ref C0)))
    (rc16 : PySem.W.recIn K p16 "classmethod" = some (.ref f16 :: rest16))
    (fi16 : PySem.W.fnIn K f16 = true)
    (l16 : K.lookup f16 = some ⟨oc16, od16, .func (PySem.W.fnOf "read" "Code.read" (defArgs s_Code_read) (defBody s_Code_read) (defScope s_Code_read) .none kV16 dc16 pm16 an16 cd16 ct16), sl16⟩)
    (c16 : PySem.W.codeIn K cd16 "Code.read" = true)
    (k16 : PySem.W.keepIn K (.ref f16) = true)
    (a19 : PySem.W.nsIn K mainGlobals "check_code" = some (some (.ref f19)))
    (l19 : K.lookup f19 = some ⟨oc19, od19, .func (PySem.W.fnOf "check_code" "check_code" (defArgs s_check_code) (defBody s_check_code) (defScope s_check_code) .none kV19 dc19 pm19 an19 cd19 ct19), sl19⟩)
    (c19 : PySem.W.codeIn K cd19 "check_code" = true)
    (k19 : PySem.W.keepIn K (.ref f19) = true)
    (a23 : PySem.W.nsIn K mainGlobals "turned" = some (some (.ref f23)))
    (l23 : K.lookup f23 = some ⟨oc23, od23, .func (PySem.W.fnOf "turned" "turned" (defArgs s_turned) (defBody s_turned) (defScope s_turned) .none kV23 dc23 pm23 an23 cd23 ct23), sl23⟩)
    (c23 : PySem.W.codeIn K cd23 "turned" = true)
    (k23 : PySem.W.keepIn K (.ref f23) = true)
    (a0 : PySem.W.nsIn K mainGlobals "is_whole" = some (some (.ref f0)))
    (l0 : K.lookup f0 = some ⟨oc0, od0, .func (PySem.W.fnOf "is_whole" "is_whole" (defArgs s_is_whole) (defBody s_is_whole) (defScope s_is_whole) .none kV0 dc0 pm0 an0 cd0 ct0), sl0⟩)
    (c0 : PySem.W.codeIn K cd0 "is_whole" = true)
    (k0 : PySem.W.keepIn K (.ref f0) = true)
    (a24 : PySem.W.nsIn K mainGlobals "is_order" = some (some (.ref f24)))
    (l24 : K.lookup f24 = some ⟨oc24, od24, .func (PySem.W.fnOf "is_order" "is_order" (defArgs s_is_order) (defBody s_is_order) (defScope s_is_order) .none kV24 dc24 pm24 an24 cd24 ct24), sl24⟩)
    (c24 : PySem.W.codeIn K cd24 "is_order" = true)
    (k24 : PySem.W.keepIn K (.ref f24) = true)
    (a25 : PySem.W.nsIn K mainGlobals "moved" = some (some (.ref f25)))
    (l25 : K.lookup f25 = some ⟨oc25, od25, .func (PySem.W.fnOf "moved" "moved" (defArgs s_moved) (defBody s_moved) (defScope s_moved) .none kV25 dc25 pm25 an25 cd25 ct25), sl25⟩)
    (c25 : PySem.W.codeIn K cd25 "moved" = true)
    (k25 : PySem.W.keepIn K (.ref f25) = true)
    (a26 : PySem.W.nsIn K mainGlobals "renamed" = some (some (.ref f26)))
    (l26 : K.lookup f26 = some ⟨oc26, od26, .func (PySem.W.fnOf "renamed" "renamed" (defArgs s_renamed) (defBody s_renamed) (defScope s_renamed) .none kV26 dc26 pm26 an26 cd26 ct26), sl26⟩)
    (c26 : PySem.W.codeIn K cd26 "renamed" = true)
    (k26 : PySem.W.keepIn K (.ref f26) = true)
    (a27 : PySem.W.nsIn K mainGlobals "are_places" = some (some (.ref f27)))
    (l27 : K.lookup f27 = some ⟨oc27, od27, .func (PySem.W.fnOf "are_places" "are_places" (defArgs s_are_places) (defBody s_are_places) (defScope s_are_places) .none kV27 dc27 pm27 an27 cd27 ct27), sl27⟩)
    (c27 : PySem.W.codeIn K cd27 "are_places" = true)
    (k27 : PySem.W.keepIn K (.ref f27) = true)
    (a28 : PySem.W.nsIn K mainGlobals "exchanged" = some (some (.ref f28)))
    (l28 : K.lookup f28 = some ⟨oc28, od28, .func (PySem.W.fnOf "exchanged" "exchanged" (defArgs s_exchanged) (defBody s_exchanged) (defScope s_exchanged) .none kV28 dc28 pm28 an28 cd28 ct28), sl28⟩)
    (c28 : PySem.W.codeIn K cd28 "exchanged" = true)
    (k28 : PySem.W.keepIn K (.ref f28) = true)
    (a29 : PySem.W.nsIn K mainGlobals "flipped" = some (some (.ref f29)))
    (l29 : K.lookup f29 = some ⟨oc29, od29, .func (PySem.W.fnOf "flipped" "flipped" (defArgs s_flipped) (defBody s_flipped) (defScope s_flipped) .none kV29 dc29 pm29 an29 cd29 ct29), sl29⟩)
    (c29 : PySem.W.codeIn K cd29 "flipped" = true)
    (k29 : PySem.W.keepIn K (.ref f29) = true)
    (a7 : PySem.W.findIn K (.ref C0) "__len__" = some (some (.ref f7)))
    (fn7 : PySem.W.isFn K (.ref f7) = true)
    (fi7 : PySem.W.fnIn K f7 = true)
    (l7 : K.lookup f7 = some ⟨oc7, od7, .func (PySem.W.fnOf "__len__" "Code.__len__" (defArgs s_Code_len) (defBody s_Code_len) (defScope s_Code_len) .none kV7 dc7 pm7 an7 cd7 ct7), sl7⟩)
    (c7 : PySem.W.codeIn K cd7 "Code.__len__" = true)
    (k7 : PySem.W.keepIn K (.ref f7) = true)
    (a13 : PySem.W.findIn K (.ref C0) "__neg__" = some (some (.ref f13)))
    (fn13 : PySem.W.isFn K (.ref f13) = true)
    (fi13 : PySem.W.fnIn K f13 = true)
    (l13 : K.lookup f13 = some ⟨oc13, od13, .func (PySem.W.fnOf "__neg__" "Code.__neg__" (defArgs s_Code_neg) (defBody s_Code_neg) (defScope s_Code_neg) .none kV13 dc13 pm13 an13 cd13 ct13), sl13⟩)
    (c13 : PySem.W.codeIn K cd13 "Code.__neg__" = true)
    (k13 : PySem.W.keepIn K (.ref f13) = true)
    (a30 : PySem.W.nsIn K mainGlobals "column" = some (some (.ref f30)))
    (l30 : K.lookup f30 = some ⟨oc30, od30, .func (PySem.W.fnOf "column" "column" (defArgs s_column) (defBody s_column) (defScope s_column) .none kV30 dc30 pm30 an30 cd30 ct30), sl30⟩)
    (c30 : PySem.W.codeIn K cd30 "column" = true)
    (k30 : PySem.W.keepIn K (.ref f30) = true)
    (a31 : PySem.W.nsIn K mainGlobals "fitting_order" = some (some (.ref f31)))
    (l31 : K.lookup f31 = some ⟨oc31, od31, .func (PySem.W.fnOf "fitting_order" "fitting_order" (defArgs s_fitting_order) (defBody s_fitting_order) (defScope s_fitting_order) .none kV31 dc31 pm31 an31 cd31 ct31), sl31⟩)
    (c31 : PySem.W.codeIn K cd31 "fitting_order" = true)
    (k31 : PySem.W.keepIn K (.ref f31) = true)
    (a32 : PySem.W.nsIn K mainGlobals "fitting_places" = some (some (.ref f32)))
    (l32 : K.lookup f32 = some ⟨oc32, od32, .func (PySem.W.fnOf "fitting_places" "fitting_places" (defArgs s_fitting_places) (defBody s_fitting_places) (defScope s_fitting_places) .none kV32 dc32 pm32 an32 cd32 ct32), sl32⟩)
    (c32 : PySem.W.codeIn K cd32 "fitting_places" = true)
    (k32 : PySem.W.keepIn K (.ref f32) = true)
    (a33 : PySem.W.nsIn K mainGlobals "alike" = some (some (.ref f33)))
    (l33 : K.lookup f33 = some ⟨oc33, od33, .func (PySem.W.fnOf "alike" "alike" (defArgs s_alike) (defBody s_alike) (defScope s_alike) .none kV33 dc33 pm33 an33 cd33 ct33), sl33⟩)
    (c33 : PySem.W.codeIn K cd33 "alike" = true)
    (k33 : PySem.W.keepIn K (.ref f33) = true)
    (a34 : PySem.W.nsIn K mainGlobals "window_of" = some (some (.ref f34)))
    (l34 : K.lookup f34 = some ⟨oc34, od34, .func (PySem.W.fnOf "window_of" "window_of" (defArgs s_window_of) (defBody s_window_of) (defScope s_window_of) .none kV34 dc34 pm34 an34 cd34 ct34), sl34⟩)
    (c34 : PySem.W.codeIn K cd34 "window_of" = true)
    (k34 : PySem.W.keepIn K (.ref f34) = true)
    (a35 : PySem.W.nsIn K mainGlobals "mixtures" = some (some (.ref f35)))
    (l35 : K.lookup f35 = some ⟨oc35, od35, .func (PySem.W.fnOf "mixtures" "mixtures" (defArgs s_mixtures) (defBody s_mixtures) (defScope s_mixtures) .none kV35 dc35 pm35 an35 cd35 ct35), sl35⟩)
    (c35 : PySem.W.codeIn K cd35 "mixtures" = true)
    (k35 : PySem.W.keepIn K (.ref f35) = true)
    (a36 : PySem.W.nsIn K mainGlobals "seen" = some (some (.ref f36)))
    (l36 : K.lookup f36 = some ⟨oc36, od36, .func (PySem.W.fnOf "seen" "seen" (defArgs s_seen) (defBody s_seen) (defScope s_seen) .none kV36 dc36 pm36 an36 cd36 ct36), sl36⟩)
    (c36 : PySem.W.codeIn K cd36 "seen" = true)
    (k36 : PySem.W.keepIn K (.ref f36) = true)
    (a37 : PySem.W.nsIn K mainGlobals "mixes" = some (some (.ref f37)))
    (l37 : K.lookup f37 = some ⟨oc37, od37, .func (PySem.W.fnOf "mixes" "mixes" (defArgs s_mixes) (defBody s_mixes) (defScope s_mixes) .none kV37 dc37 pm37 an37 cd37 ct37), sl37⟩)
    (c37 : PySem.W.codeIn K cd37 "mixes" = true)
    (k37 : PySem.W.keepIn K (.ref f37) = true)
    (a38 : PySem.W.nsIn K mainGlobals "changes" = some (some (.ref f38)))
    (l38 : K.lookup f38 = some ⟨oc38, od38, .func (PySem.W.fnOf "changes" "changes" (defArgs s_changes) (defBody s_changes) (defScope s_changes) .none kV38 dc38 pm38 an38 cd38 ct38), sl38⟩)
    (c38 : PySem.W.codeIn K cd38 "changes" = true)
    (k38 : PySem.W.keepIn K (.ref f38) = true)
    (a39 : PySem.W.nsIn K mainGlobals "is_single" = some (some (.ref f39)))
    (l39 : K.lookup f39 = some ⟨oc39, od39, .func (PySem.W.fnOf "is_single" "is_single" (defArgs s_is_single) (defBody s_is_single) (defScope s_is_single) .none kV39 dc39 pm39 an39 cd39 ct39), sl39⟩)
    (c39 : PySem.W.codeIn K cd39 "is_single" = true)
    (k39 : PySem.W.keepIn K (.ref f39) = true)
    (a3 : PySem.W.nsIn K mainGlobals "check_span" = some (some (.ref f3)))
    (l3 : K.lookup f3 = some ⟨oc3, od3, .func (PySem.W.fnOf "check_span" "check_span" (defArgs s_check_span) (defBody s_check_span) (defScope s_check_span) .none kV3 dc3 pm3 an3 cd3 ct3), sl3⟩)
    (c3 : PySem.W.codeIn K cd3 "check_span" = true)
    (k3 : PySem.W.keepIn K (.ref f3) = true)
    (a40 : PySem.W.nsIn K mainGlobals "readings" = some (some (.ref f40)))
    (l40 : K.lookup f40 = some ⟨oc40, od40, .func (PySem.W.fnOf "readings" "readings" (defArgs s_readings) (defBody s_readings) (defScope s_readings) .none kV40 dc40 pm40 an40 cd40 ct40), sl40⟩)
    (c40 : PySem.W.codeIn K cd40 "readings" = true)
    (k40 : PySem.W.keepIn K (.ref f40) = true)
    (a41 : PySem.W.nsIn K mainGlobals "numbers_of" = some (some (.ref f41)))
    (l41 : K.lookup f41 = some ⟨oc41, od41, .func (PySem.W.fnOf "numbers_of" "numbers_of" (defArgs s_numbers_of) (defBody s_numbers_of) (defScope s_numbers_of) .none kV41 dc41 pm41 an41 cd41 ct41), sl41⟩)
    (c41 : PySem.W.codeIn K cd41 "numbers_of" = true)
    (k41 : PySem.W.keepIn K (.ref f41) = true)
    (a44 : PySem.W.nsIn K mainGlobals "gaps_from" = some (some (.ref f44)))
    (l44 : K.lookup f44 = some ⟨oc44, od44, .func (PySem.W.fnOf "gaps_from" "gaps_from" (defArgs s_gaps_from) (defBody s_gaps_from) (defScope s_gaps_from) .none kV44 dc44 pm44 an44 cd44 ct44), sl44⟩)
    (c44 : PySem.W.codeIn K cd44 "gaps_from" = true)
    (k44 : PySem.W.keepIn K (.ref f44) = true)
    (a42 : PySem.W.nsIn K mainGlobals "fixed_and_free" = some (some (.ref f42)))
    (l42 : K.lookup f42 = some ⟨oc42, od42, .func (PySem.W.fnOf "fixed_and_free" "fixed_and_free" (defArgs s_fixed_and_free) (defBody s_fixed_and_free) (defScope s_fixed_and_free) .none kV42 dc42 pm42 an42 cd42 ct42), sl42⟩)
    (c42 : PySem.W.codeIn K cd42 "fixed_and_free" = true)
    (k42 : PySem.W.keepIn K (.ref f42) = true)
    (a43 : PySem.W.nsIn K mainGlobals "seen_values" = some (some (.ref f43)))
    (l43 : K.lookup f43 = some ⟨oc43, od43, .func (PySem.W.fnOf "seen_values" "seen_values" (defArgs s_seen_values) (defBody s_seen_values) (defScope s_seen_values) .none kV43 dc43 pm43 an43 cd43 ct43), sl43⟩)
    (c43 : PySem.W.codeIn K cd43 "seen_values" = true)
    (k43 : PySem.W.keepIn K (.ref f43) = true)
    (a45 : PySem.W.nsIn K mainGlobals "all_off" = some (some (.ref f45)))
    (l45 : K.lookup f45 = some ⟨oc45, od45, .func (PySem.W.fnOf "all_off" "all_off" (defArgs s_all_off) (defBody s_all_off) (defScope s_all_off) .none kV45 dc45 pm45 an45 cd45 ct45), sl45⟩)
    (c45 : PySem.W.codeIn K cd45 "all_off" = true)
    (k45 : PySem.W.keepIn K (.ref f45) = true)
    (a46 : PySem.W.nsIn K mainGlobals "most_off" = some (some (.ref f46)))
    (l46 : K.lookup f46 = some ⟨oc46, od46, .func (PySem.W.fnOf "most_off" "most_off" (defArgs s_most_off) (defBody s_most_off) (defScope s_most_off) .none kV46 dc46 pm46 an46 cd46 ct46), sl46⟩)
    (c46 : PySem.W.codeIn K cd46 "most_off" = true)
    (k46 : PySem.W.keepIn K (.ref f46) = true)
    (a47 : PySem.W.nsIn K mainGlobals "off" = some (some (.ref f47)))
    (l47 : K.lookup f47 = some ⟨oc47, od47, .func (PySem.W.fnOf "off" "off" (defArgs s_off) (defBody s_off) (defScope s_off) .none kV47 dc47 pm47 an47 cd47 ct47), sl47⟩)
    (c47 : PySem.W.codeIn K cd47 "off" = true)
    (k47 : PySem.W.keepIn K (.ref f47) = true)
    (a48 : PySem.W.nsIn K mainGlobals "far_off" = some (some (.ref f48)))
    (l48 : K.lookup f48 = some ⟨oc48, od48, .func (PySem.W.fnOf "far_off" "far_off" (defArgs s_far_off) (defBody s_far_off) (defScope s_far_off) .none kV48 dc48 pm48 an48 cd48 ct48), sl48⟩)
    (c48 : PySem.W.codeIn K cd48 "far_off" = true)
    (k48 : PySem.W.keepIn K (.ref f48) = true)
    (a52 : PySem.W.nsIn K mainGlobals "holes_at" = some (some (.ref f52)))
    (l52 : K.lookup f52 = some ⟨oc52, od52, .func (PySem.W.fnOf "holes_at" "holes_at" (defArgs s_holes_at) (defBody s_holes_at) (defScope s_holes_at) .none kV52 dc52 pm52 an52 cd52 ct52), sl52⟩)
    (c52 : PySem.W.codeIn K cd52 "holes_at" = true)
    (k52 : PySem.W.keepIn K (.ref f52) = true)
    (a53 : PySem.W.nsIn K mainGlobals "holes" = some (some (.ref f53)))
    (l53 : K.lookup f53 = some ⟨oc53, od53, .func (PySem.W.fnOf "holes" "holes" (defArgs s_holes) (defBody s_holes) (defScope s_holes) .none kV53 dc53 pm53 an53 cd53 ct53), sl53⟩)
    (c53 : PySem.W.codeIn K cd53 "holes" = true)
    (k53 : PySem.W.keepIn K (.ref f53) = true)
    (a11 : PySem.W.findIn K (.ref C0) "__contains__" = some (some (.ref f11)))
    (fn11 : PySem.W.isFn K (.ref f11) = true)
    (fi11 : PySem.W.fnIn K f11 = true)
    (l11 : K.lookup f11 = some ⟨oc11, od11, .func (PySem.W.fnOf "__contains__" "Code.__contains__" (defArgs s_Code_contains) (defBody s_Code_contains) (defScope s_Code_contains) .none kV11 dc11 pm11 an11 cd11 ct11), sl11⟩)
    (c11 : PySem.W.codeIn K cd11 "Code.__contains__" = true)
    (k11 : PySem.W.keepIn K (.ref f11) = true)
    (a49 : PySem.W.nsIn K mainGlobals "off_by" = some (some (.ref f49)))
    (l49 : K.lookup f49 = some ⟨oc49, od49, .func (PySem.W.fnOf "off_by" "off_by" (defArgs s_off_by) (defBody s_off_by) (defScope s_off_by) .none kV49 dc49 pm49 an49 cd49 ct49), sl49⟩)
    (c49 : PySem.W.codeIn K cd49 "off_by" = true)
    (k49 : PySem.W.keepIn K (.ref f49) = true)
    (a50 : PySem.W.nsIn K mainGlobals "shows_off" = some (some (.ref f50)))
    (l50 : K.lookup f50 = some ⟨oc50, od50, .func (PySem.W.fnOf "shows_off" "shows_off" (defArgs s_shows_off) (defBody s_shows_off) (defScope s_shows_off) .none kV50 dc50 pm50 an50 cd50 ct50), sl50⟩)
    (c50 : PySem.W.codeIn K cd50 "shows_off" = true)
    (k50 : PySem.W.keepIn K (.ref f50) = true)
    (a51 : PySem.W.nsIn K mainGlobals "tolerance" = some (some (.ref f51)))
    (l51 : K.lookup f51 = some ⟨oc51, od51, .func (PySem.W.fnOf "tolerance" "tolerance" (defArgs s_tolerance) (defBody s_tolerance) (defScope s_tolerance) .none kV51 dc51 pm51 an51 cd51 ct51), sl51⟩)
    (c51 : PySem.W.codeIn K cd51 "tolerance" = true)
    (k51 : PySem.W.keepIn K (.ref f51) = true)
    (a57 : PySem.W.nsIn K mainGlobals "_law_same" = some (some (.ref f57)))
    (l57 : K.lookup f57 = some ⟨oc57, od57, .func (PySem.W.fnOf "_law_same" "_law_same" (defArgs s_law_same) (defBody s_law_same) (defScope s_law_same) .none kV57 dc57 pm57 an57 cd57 ct57), sl57⟩)
    (c57 : PySem.W.codeIn K cd57 "_law_same" = true)
    (k57 : PySem.W.keepIn K (.ref f57) = true)
    (a59 : PySem.W.nsIn K mainGlobals "_law_right" = some (some (.ref f59)))
    (l59 : K.lookup f59 = some ⟨oc59, od59, .func (PySem.W.fnOf "_law_right" "_law_right" (defArgs s_law_right) (defBody s_law_right) (defScope s_law_right) .none kV59 dc59 pm59 an59 cd59 ct59), sl59⟩)
    (c59 : PySem.W.codeIn K cd59 "_law_right" = true)
    (k59 : PySem.W.keepIn K (.ref f59) = true)
    (a60 : PySem.W.nsIn K mainGlobals "law" = some (some (.ref f60)))
    (l60 : K.lookup f60 = some ⟨oc60, od60, .func (PySem.W.fnOf "law" "law" (defArgs s_law) (defBody s_law) (defScope s_law) .none kV60 dc60 pm60 an60 cd60 ct60), sl60⟩)
    (c60 : PySem.W.codeIn K cd60 "law" = true)
    (k60 : PySem.W.keepIn K (.ref f60) = true)
    (eg2 : PySem.W.nsIn K mainGlobals "NoCode" = some (some (.ref E2)))
    (ex2 : PySem.W.excIn K E2 [.type "ValueError", .type "Exception", .type "BaseException", .type "object"] "ValueError.__new__" = true)
    (ek2 : PySem.W.keepIn K (.ref E2) = true)
    (es2 : PySem.W.subIn K (.ref E2) (.type "BaseException") = some true)
    (et2 : PySem.W.typeIn K (.ref E2) = some (.type "type"))
    (eg5 : PySem.W.nsIn K mainGlobals "NoOrder" = some (some (.ref E5)))
    (ex5 : PySem.W.excIn K E5 [.type "ValueError", .type "Exception", .type "BaseException", .type "object"] "ValueError.__new__" = true)
    (ek5 : PySem.W.keepIn K (.ref E5) = true)
    (es5 : PySem.W.subIn K (.ref E5) (.type "BaseException") = some true)
    (et5 : PySem.W.typeIn K (.ref E5) = some (.type "type"))
    (eg6 : PySem.W.nsIn K mainGlobals "NoPlaces" = some (some (.ref E6)))
    (ex6 : PySem.W.excIn K E6 [.type "ValueError", .type "Exception", .type "BaseException", .type "object"] "ValueError.__new__" = true)
    (ek6 : PySem.W.keepIn K (.ref E6) = true)
    (es6 : PySem.W.subIn K (.ref E6) (.type "BaseException") = some true)
    (et6 : PySem.W.typeIn K (.ref E6) = some (.type "type"))
    (eg8 : PySem.W.nsIn K mainGlobals "NoSpan" = some (some (.ref E8)))
    (ex8 : PySem.W.excIn K E8 [.type "ValueError", .type "Exception", .type "BaseException", .type "object"] "ValueError.__new__" = true)
    (ek8 : PySem.W.keepIn K (.ref E8) = true)
    (es8 : PySem.W.subIn K (.ref E8) (.type "BaseException") = some true)
    (et8 : PySem.W.typeIn K (.ref E8) = some (.type "type"))
    (eg7 : PySem.W.nsIn K mainGlobals "NoText" = some (some (.ref E7)))
    (ex7 : PySem.W.excIn K E7 [.type "ValueError", .type "Exception", .type "BaseException", .type "object"] "ValueError.__new__" = true)
    (ek7 : PySem.W.keepIn K (.ref E7) = true)
    (es7 : PySem.W.subIn K (.ref E7) (.type "BaseException") = some true)
    (et7 : PySem.W.typeIn K (.ref E7) = some (.type "type"))
    (eg3 : PySem.W.nsIn K mainGlobals "NoValue" = some (some (.ref E3)))
    (ex3 : PySem.W.excIn K E3 [.type "ValueError", .type "Exception", .type "BaseException", .type "object"] "ValueError.__new__" = true)
    (ek3 : PySem.W.keepIn K (.ref E3) = true)
    (es3 : PySem.W.subIn K (.ref E3) (.type "BaseException") = some true)
    (et3 : PySem.W.typeIn K (.ref E3) = some (.type "type"))
    (eg4 : PySem.W.nsIn K mainGlobals "NoWord" = some (some (.ref E4)))
    (ex4 : PySem.W.excIn K E4 [.type "ValueError", .type "Exception", .type "BaseException", .type "object"] "ValueError.__new__" = true)
    (ek4 : PySem.W.keepIn K (.ref E4) = true)
    (es4 : PySem.W.subIn K (.ref E4) (.type "BaseException") = some true)
    (et4 : PySem.W.typeIn K (.ref E4) = some (.type "type"))
    (eg1 : PySem.W.nsIn K mainGlobals "NoWords" = some (some (.ref E1)))
    (ex1 : PySem.W.excIn K E1 [.type "ValueError", .type "Exception", .type "BaseException", .type "object"] "ValueError.__new__" = true)
    (ek1 : PySem.W.keepIn K (.ref E1) = true)
    (es1 : PySem.W.subIn K (.ref E1) (.type "BaseException") = some true)
    (et1 : PySem.W.typeIn K (.ref E1) = some (.type "type"))
    (kk_MOST_BITS : PySem.W.nsIn K mainGlobals "MOST_BITS" = some (some (.int 5 t_MOST_BITS)))
    (kk_MOST_SPAN : PySem.W.nsIn K mainGlobals "MOST_SPAN" = some (some (.int 4 t_MOST_SPAN)))
    (kk_MOST_WORDS : PySem.W.nsIn K mainGlobals "MOST_WORDS" = some (some (.int 16 t_MOST_WORDS)))
    (tg_MANY : PySem.W.nsIn K mainGlobals "MANY" = some (some (.ref ta_MANY)))
    (tl_MANY : K.lookup ta_MANY = some ⟨.type "tuple", td_MANY, .seq ti_MANY tn_MANY, ts_MANY⟩)
    (tv_MANY : intsB [1, 2, 2, 4, 2, 4, 4, 8, 2, 4, 4, 8, 4, 8, 8, 16, 2, 4, 4, 8, 4, 8, 8, 16, 4, 8, 8, 16, 8, 16, 16, 32] ti_MANY.toList = true)
    (z_all : PySem.W.nsIn K mainGlobals "all" = some none)
    (z_bool : PySem.W.nsIn K mainGlobals "bool" = some none)
    (z_enumerate : PySem.W.nsIn K mainGlobals "enumerate" = some none)
    (z_int : PySem.W.nsIn K mainGlobals "int" = some none)
    (z_isinstance : PySem.W.nsIn K mainGlobals "isinstance" = some none)
    (z_len : PySem.W.nsIn K mainGlobals "len" = some none)
    (z_list : PySem.W.nsIn K mainGlobals "list" = some none)
    (z_max : PySem.W.nsIn K mainGlobals "max" = some none)
    (z_min : PySem.W.nsIn K mainGlobals "min" = some none)
    (z_range : PySem.W.nsIn K mainGlobals "range" = some none)
    (z_repr : PySem.W.nsIn K mainGlobals "repr" = some none)
    (z_set : PySem.W.nsIn K mainGlobals "set" = some none)
    (z_sorted : PySem.W.nsIn K mainGlobals "sorted" = some none)
    (z_str : PySem.W.nsIn K mainGlobals "str" = some none)
    (z_sum : PySem.W.nsIn K mainGlobals "sum" = some none)
    (z_tuple : PySem.W.nsIn K mainGlobals "tuple" = some none)
    (z_zip : PySem.W.nsIn K mainGlobals "zip" = some none) :
    ∀ base : Heap, K.In base → base.Ns mainGlobals mg → EV.FnR l.prog w K mg base (L2.CX l.prog w) 11 fa (spScript K) := by
  obtain ⟨T, F⟩ := all_mk (l := l) (w := w) X G hfa aC0 pg0 hd0 po0 sa0 mk0 kc0 no0_0 no0_1 no0_2 ia0 in0 it0 im0 ik0_NoneType ik0_bool ik0_int ik0_str ik0_tuple ik0_list ik0_dict a54 l54 c54 k54 a55 l55 c55 k55 a56 l56 c56 k56 a58 l58 c58 k58 a1 l1 c1 k1 a2 l2 c2 k2 a17 l17 c17 k17 a18 l18 c18 k18 a4 fn4 l4 c4 k4 a5 ge5 ta5 re5 l5 c5 k5 a20 l20 c20 k20 a8 fn8 fi8 l8 c8 k8 a6 ge6 ta6 re6 l6 c6 k6 a9 fn9 fi9 l9 c9 k9 a21 l21 c21 k21 a15 fn15 l15 c15 k15 a22 l22 c22 k22 rd16 ga16 a16 rc16 fi16 l16 c16 k16 a19 l19 c19 k19 a23 l23 c23 k23 a0 l0 c0 k0 a24 l24 c24 k24 a25 l25 c25 k25 a26 l26 c26 k26 a27 l27 c27 k27 a28 l28 c28 k28 a29 l29 c29 k29 a7 fn7 fi7 l7 c7 k7 a13 fn13 fi13 l13 c13 k13 a30 l30 c30 k30 a31 l31 c31 k31 a32 l32 c32 k32 a33 l33 c33 k33 a34 l34 c34 k34 a35 l35 c35 k35 a36 l36 c36 k36 a37 l37 c37 k37 a38 l38 c38 k38 a39 l39 c39 k39 a3 l3 c3 k3 a40 l40 c40 k40 a41 l41 c41 k41 a44 l44 c44 k44 a42 l42 c42 k42 a43 l43 c43 k43 a45 l45 c45 k45 a46 l46 c46 k46 a47 l47 c47 k47 a48 l48 c48 k48 a52 l52 c52 k52 a53 l53 c53 k53 a11 fn11 fi11 l11 c11 k11 a49 l49 c49 k49 a50 l50 c50 k50 a51 l51 c51 k51 a57 l57 c57 k57 a59 l59 c59 k59 a60 l60 c60 k60 eg2 ex2 ek2 es2 et2 eg5 ex5 ek5 es5 et5 eg6 ex6 ek6 es6 et6 eg8 ex8 ek8 es8 et8 eg7 ex7 ek7 es7 et7 eg3 ex3 ek3 es3 et3 eg4 ex4 ek4 es4 et4 eg1 ex1 ek1 es1 et1 kk_MOST_BITS kk_MOST_SPAN kk_MOST_WORDS tg_MANY tl_MANY tv_MANY z_all z_bool z_enumerate z_int z_isinstance z_len z_list z_max z_min z_range z_repr z_set z_sorted z_str z_sum z_tuple z_zip
  exact fun base h1 h2 => (F base h1 h2).imp fun vs H Q E z => (sp_script2 z HT).2
end k15
end Lw
end T50
section T51
set_option Elab.async false
set_option linter.all false
set_option maxRecDepth 100000
open PySem PySem.W PyProof.Rows
set_option maxHeartbeats 0 in
theorem PySem.Challenge.cw_halfread_k15_codes_by_names_holds : PySem.Challenge.rw_halfread_k15_codes_by_names.Holds := by
  w_on; o_law; k_head; (case hw => w_witness2)
  k_fill
  refine EV.walk2 (l := PySem.Challenge.rw_halfread_k15_codes_by_names) (k := 11) rfl rfl ⟨⟨rfl, by decide, by decide⟩, rfl⟩ (fun w h Y => PySem.W.kIn_of Y) ?F
  case F =>
    intro w mg fa h KX G hmg
    refine' Lw.k15.all_law Lw.k15.law_true KX G hmg ?aC0 ?pg0 ?hd0 ?po0 ?sa0 ?mk0 ?kc0 ?no0_0 ?no0_1 ?no0_2 ?ia0 ?in0 ?it0 ?im0 ?ik0_NoneType ?ik0_bool ?ik0_int ?ik0_str ?ik0_tuple ?ik0_list ?ik0_dict ?a54 ?l54 ?c54 ?k54 ?a55 ?l55 ?c55 ?k55 ?a56 ?l56 ?c56 ?k56 ?a58 ?l58 ?c58 ?k58 ?a1 ?l1 ?c1 ?k1 ?a2 ?l2 ?c2 ?k2 ?a17 ?l17 ?c17 ?k17 ?a18 ?l18 ?c18 ?k18 ?a4 ?fn4 ?l4 ?c4 ?k4 ?a5 ?ge5 ?ta5 ?re5 ?l5 ?c5 ?k5 ?a20 ?l20 ?c20 ?k20 ?a8 ?fn8 ?fi8 ?l8 ?c8 ?k8 ?a6 ?ge6 ?ta6 ?re6 ?l6 ?c6 ?k6 ?a9 ?fn9 ?fi9 ?l9 ?c9 ?k9 ?a21 ?l21 ?c21 ?k21 ?a15 ?fn15 ?l15 ?c15 ?k15 ?a22 ?l22 ?c22 ?k22 ?rd16 ?ga16 ?a16 ?rc16 ?fi16 ?l16 ?c16 ?k16 ?a19 ?l19 ?c19 ?k19 ?a23 ?l23 ?c23 ?k23 ?a0 ?l0 ?c0 ?k0 ?a24 ?l24 ?c24 ?k24 ?a25 ?l25 ?c25 ?k25 ?a26 ?l26 ?c26 ?k26 ?a27 ?l27 ?c27 ?k27 ?a28 ?l28 ?c28 ?k28 ?a29 ?l29 ?c29 ?k29 ?a7 ?fn7 ?fi7 ?l7 ?c7 ?k7 ?a13 ?fn13 ?fi13 ?l13 ?c13 ?k13 ?a30 ?l30 ?c30 ?k30 ?a31 ?l31 ?c31 ?k31 ?a32 ?l32 ?c32 ?k32 ?a33 ?l33 ?c33 ?k33 ?a34 ?l34 ?c34 ?k34 ?a35 ?l35 ?c35 ?k35 ?a36 ?l36 ?c36 ?k36 ?a37 ?l37 ?c37 ?k37 ?a38 ?l38 ?c38 ?k38 ?a39 ?l39 ?c39 ?k39 ?a3 ?l3 ?c3 ?k3 ?a40 ?l40 ?c40 ?k40 ?a41 ?l41 ?c41 ?k41 ?a44 ?l44 ?c44 ?k44 ?a42 ?l42 ?c42 ?k42 ?a43 ?l43 ?c43 ?k43 ?a45 ?l45 ?c45 ?k45 ?a46 ?l46 ?c46 ?k46 ?a47 ?l47 ?c47 ?k47 ?a48 ?l48 ?c48 ?k48 ?a52 ?l52 ?c52 ?k52 ?a53 ?l53 ?c53 ?k53 ?a11 ?fn11 ?fi11 ?l11 ?c11 ?k11 ?a49 ?l49 ?c49 ?k49 ?a50 ?l50 ?c50 ?k50 ?a51 ?l51 ?c51 ?k51 ?a57 ?l57 ?c57 ?k57 ?a59 ?l59 ?c59 ?k59 ?a60 ?l60 ?c60 ?k60 ?eg2 ?ex2 ?ek2 ?es2 ?et2 ?eg5 ?ex5 ?ek5 ?es5 ?et5 ?eg6 ?ex6 ?ek6 ?es6 ?et6 ?eg8 ?ex8 ?ek8 ?es8 ?et8 ?eg7 ?ex7 ?ek7 ?es7 ?et7 ?eg3 ?ex3 ?ek3 ?es3 ?et3 ?eg4 ?ex4 ?ek4 ?es4 ?et4 ?eg1 ?ex1 ?ek1 ?es1 ?et1 ?kk_MOST_BITS ?kk_MOST_SPAN ?kk_MOST_WORDS ?tg_MANY ?tl_MANY ?tv_MANY ?z_all ?z_bool ?z_enumerate ?z_int ?z_isinstance ?z_len ?z_list ?z_max ?z_min ?z_range ?z_repr ?z_set ?z_sorted ?z_str ?z_sum ?z_tuple ?z_zip
    (case aC0 => k_is)
    (case pg0 => k_is)
    (case hd0 => k_is)
    (case po0 => k_is)
    (case sa0 => k_is)
    (case mk0 => k_is)
    (case kc0 => k_is)
    (case no0_0 => k_is)
    (case no0_1 => k_is)
    (case no0_2 => k_is)
    (case ia0 => k_is)
    (case in0 => k_is)
    (case it0 => k_is)
    (case im0 => k_is)
    (case ik0_NoneType => kit_is)
    (case ik0_bool => kit_is)
    (case ik0_int => kit_is)
    (case ik0_str => kit_is)
    (case ik0_tuple => kit_is)
    (case ik0_list => kit_is)
    (case ik0_dict => kit_is)
    (case a54 => k_is)
    (case l54 => k_is)
    (case c54 => k_is)
    (case k54 => k_is)
    (case a55 => k_is)
    (case l55 => k_is)
    (case c55 => k_is)
    (case k55 => k_is)
    (case a56 => k_is)
    (case l56 => k_is)
    (case c56 => k_is)
    (case k56 => k_is)
    (case a58 => k_is)
    (case l58 => k_is)
    (case c58 => k_is)
    (case k58 => k_is)
    (case a1 => k_is)
    (case l1 => k_is)
    (case c1 => k_is)
    (case k1 => k_is)
    (case a2 => k_is)
    (case l2 => k_is)
    (case c2 => k_is)
    (case k2 => k_is)
    (case a17 => k_is)
    (case l17 => k_is)
    (case c17 => k_is)
    (case k17 => k_is)
    (case a18 => k_is)
    (case l18 => k_is)
    (case c18 => k_is)
    (case k18 => k_is)
    (case a4 => k_is)
    (case fn4 => k_is)
    (case l4 => k_is)
    (case c4 => k_is)
    (case k4 => k_is)
    (case a5 => k_is)
    (case ge5 => k_is)
    (case ta5 => k_is)
    (case re5 => k_is)
    (case l5 => k_is)
    (case c5 => k_is)
    (case k5 => k_is)
    (case a20 => k_is)
    (case l20 => k_is)
    (case c20 => k_is)
    (case k20 => k_is)
    (case a8 => k_is)
    (case fn8 => k_is)
    (case fi8 => k_is)
    (case l8 => k_is)
    (case c8 => k_is)
    (case k8 => k_is)
    (case a6 => k_is)
    (case ge6 => k_is)
    (case ta6 => k_is)
    (case re6 => k_is)
    (case l6 => k_is)
    (case c6 => k_is)
    (case k6 => k_is)
    (case a9 => k_is)
    (case fn9 => k_is)
    (case fi9 => k_is)
    (case l9 => k_is)
    (case c9 => k_is)
    (case k9 => k_is)
    (case a21 => k_is)
    (case l21 => k_is)
    (case c21 => k_is)
    (case k21 => k_is)
    (case a15 => k_is)
    (case fn15 => k_is)
    (case l15 => k_is)
    (case c15 => k_is)
    (case k15 => k_is)
    (case a22 => k_is)
    (case l22 => k_is)
    (case c22 => k_is)
    (case k22 => k_is)
    (case rd16 => k_is)
    (case ga16 => k_is)
    (case a16 => k_is)
    (case rc16 => k_is)
    (case fi16 => k_is)
    (case l16 => k_is)
    (case c16 => k_is)
    (case k16 => k_is)
    (case a19 => k_is)
    (case l19 => k_is)
    (case c19 => k_is)
    (case k19 => k_is)
    (case a23 => k_is)
    (case l23 => k_is)
    (case c23 => k_is)
    (case k23 => k_is)
    (case a0 => k_is)
    (case l0 => k_is)
    (case c0 => k_is)
    (case k0 => k_is)
    (case a24 => k_is)
    (case l24 => k_is)
    (case c24 => k_is)
    (case k24 => k_is)
    (case a25 => k_is)
    (case l25 => k_is)
    (case c25 => k_is)
    (case k25 => k_is)
    (case a26 => k_is)
    (case l26 => k_is)
    (case c26 => k_is)
    (case k26 => k_is)
    (case a27 => k_is)
    (case l27 => k_is)
    (case c27 => k_is)
    (case k27 => k_is)
    (case a28 => k_is)
    (case l28 => k_is)
    (case c28 => k_is)
    (case k28 => k_is)
    (case a29 => k_is)
    (case l29 => k_is)
    (case c29 => k_is)
    (case k29 => k_is)
    (case a7 => k_is)
    (case fn7 => k_is)
    (case fi7 => k_is)
    (case l7 => k_is)
    (case c7 => k_is)
    (case k7 => k_is)
    (case a13 => k_is)
    (case fn13 => k_is)
    (case fi13 => k_is)
    (case l13 => k_is)
    (case c13 => k_is)
    (case k13 => k_is)
    (case a30 => k_is)
    (case l30 => k_is)
    (case c30 => k_is)
    (case k30 => k_is)
    (case a31 => k_is)
    (case l31 => k_is)
    (case c31 => k_is)
    (case k31 => k_is)
    (case a32 => k_is)
    (case l32 => k_is)
    (case c32 => k_is)
    (case k32 => k_is)
    (case a33 => k_is)
    (case l33 => k_is)
    (case c33 => k_is)
    (case k33 => k_is)
    (case a34 => k_is)
    (case l34 => k_is)
    (case c34 => k_is)
    (case k34 => k_is)
    (case a35 => k_is)
    (case l35 => k_is)
    (case c35 => k_is)
    (case k35 => k_is)
    (case a36 => k_is)
    (case l36 => k_is)
    (case c36 => k_is)
    (case k36 => k_is)
    (case a37 => k_is)
    (case l37 => k_is)
    (case c37 => k_is)
    (case k37 => k_is)
    (case a38 => k_is)
    (case l38 => k_is)
    (case c38 => k_is)
    (case k38 => k_is)
    (case a39 => k_is)
    (case l39 => k_is)
    (case c39 => k_is)
    (case k39 => k_is)
    (case a3 => k_is)
    (case l3 => k_is)
    (case c3 => k_is)
    (case k3 => k_is)
    (case a40 => k_is)
    (case l40 => k_is)
    (case c40 => k_is)
    (case k40 => k_is)
    (case a41 => k_is)
    (case l41 => k_is)
    (case c41 => k_is)
    (case k41 => k_is)
    (case a44 => k_is)
    (case l44 => k_is)
    (case c44 => k_is)
    (case k44 => k_is)
    (case a42 => k_is)
    (case l42 => k_is)
    (case c42 => k_is)
    (case k42 => k_is)
    (case a43 => k_is)
    (case l43 => k_is)
    (case c43 => k_is)
    (case k43 => k_is)
    (case a45 => k_is)
    (case l45 => k_is)
    (case c45 => k_is)
    (case k45 => k_is)
    (case a46 => k_is)
    (case l46 => k_is)
    (case c46 => k_is)
    (case k46 => k_is)
    (case a47 => k_is)
    (case l47 => k_is)
    (case c47 => k_is)
    (case k47 => k_is)
    (case a48 => k_is)
    (case l48 => k_is)
    (case c48 => k_is)
    (case k48 => k_is)
    (case a52 => k_is)
    (case l52 => k_is)
    (case c52 => k_is)
    (case k52 => k_is)
    (case a53 => k_is)
    (case l53 => k_is)
    (case c53 => k_is)
    (case k53 => k_is)
    (case a11 => k_is)
    (case fn11 => k_is)
    (case fi11 => k_is)
    (case l11 => k_is)
    (case c11 => k_is)
    (case k11 => k_is)
    (case a49 => k_is)
    (case l49 => k_is)
    (case c49 => k_is)
    (case k49 => k_is)
    (case a50 => k_is)
    (case l50 => k_is)
    (case c50 => k_is)
    (case k50 => k_is)
    (case a51 => k_is)
    (case l51 => k_is)
    (case c51 => k_is)
    (case k51 => k_is)
    (case a57 => k_is)
    (case l57 => k_is)
    (case c57 => k_is)
    (case k57 => k_is)
    (case a59 => k_is)
    (case l59 => k_is)
    (case c59 => k_is)
    (case k59 => k_is)
    (case a60 => k_is)
    (case l60 => k_is)
    (case c60 => k_is)
    (case k60 => k_is)
    (case eg2 => k_is)
    (case ex2 => k_exc)
    (case ek2 => k_is)
    (case es2 => k_is)
    (case et2 => k_is)
    (case eg5 => k_is)
    (case ex5 => k_exc)
    (case ek5 => k_is)
    (case es5 => k_is)
    (case et5 => k_is)
    (case eg6 => k_is)
    (case ex6 => k_exc)
    (case ek6 => k_is)
    (case es6 => k_is)
    (case et6 => k_is)
    (case eg8 => k_is)
    (case ex8 => k_exc)
    (case ek8 => k_is)
    (case es8 => k_is)
    (case et8 => k_is)
    (case eg7 => k_is)
    (case ex7 => k_exc)
    (case ek7 => k_is)
    (case es7 => k_is)
    (case et7 => k_is)
    (case eg3 => k_is)
    (case ex3 => k_exc)
    (case ek3 => k_is)
    (case es3 => k_is)
    (case et3 => k_is)
    (case eg4 => k_is)
    (case ex4 => k_exc)
    (case ek4 => k_is)
    (case es4 => k_is)
    (case et4 => k_is)
    (case eg1 => k_is)
    (case ex1 => k_exc)
    (case ek1 => k_is)
    (case es1 => k_is)
    (case et1 => k_is)
    (case kk_MOST_BITS => k_is)
    (case kk_MOST_SPAN => k_is)
    (case kk_MOST_WORDS => k_is)
    (case tg_MANY => k_is)
    (case tl_MANY => k_is)
    (case tv_MANY => rfl)
    (case z_all => k_is)
    (case z_bool => k_is)
    (case z_enumerate => k_is)
    (case z_int => k_is)
    (case z_isinstance => k_is)
    (case z_len => k_is)
    (case z_list => k_is)
    (case z_max => k_is)
    (case z_min => k_is)
    (case z_range => k_is)
    (case z_repr => k_is)
    (case z_set => k_is)
    (case z_sorted => k_is)
    (case z_str => k_is)
    (case z_sum => k_is)
    (case z_tuple => k_is)
    (case z_zip => k_is)
end T51
