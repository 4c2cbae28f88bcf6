import PyProof.Rows.All
import Wide.All
import OpenK.AllK
import Wide.FinOn
import PySem.Challenge.RW_halfread_k30_single_codes_made
import HandS.Base
import HandS.Call
import HandS.List
import HandS.Comp
import HandS.Star
import HandS.Exc
import HandS.ExcOwn
import HandS.Words
import HandS.Iter
import HandS.TupAny
import HandS.TupMul
import HandS.Deep
import HandS.Text
import HandS.Conv
import HandS.Zip
import HandS.Wide
import HandS.FStr
import HandS.Style
import HandS.More
import HandS.WordsExc
import HandS.TryOnly
import HandS.TupSets
import HandS.IsInst
import HandS.Flow
import KE.KTupSum
import HandS.Property
import HandS.CallLocal
import KE.GoesEnum
import KE.GoesMore
import HandS.DictComp
import HandS.ForMost
section T0
set_option Elab.async false
set_option linter.all false
set_option maxRecDepth 100000
namespace EV
open PySem PySem.Spec PyProof.Rows L2

/-! ### data of the evaluator: no addresses -/
inductive P where
  | non | bl (b : Bool) | int (i : Int) | str (x : Str)
  | tup (ds : List P) | lst (ds : List P)
  | ins (c : Nat) (fs : List P)
  | dct (ks : List (List Int)) (vs : List P)
  | scr (ds : List P)
  | fn (i : Nat)
inductive Vl where
  | p (d : P) | ref (n : Nat)
/-- tracked addresses, by the heap's places; no: those that no data refers to (the tracked ones among them) -/
structure Trk where
  tk : List Addr
  no : List Addr
  sub : ∀ a ∈ tk, a ∈ no
/-- the program's classes by number: their addresses, their instances' fields -/
structure Tb where
  cls : Nat → Addr
  nms : Nat → List Str
  exc : Nat → Addr
  fns : Nat → Addr

section
variable (T : Tb) (K : PySem.W.Frag)
def TupM (M : Trk) (H : Hp) (a : Addr) (xs : List V) : Prop := H a = some (.tup xs) ∧ a ∉ M.no
def LstM (M : Trk) (H : Hp) (a : Addr) (xs : List V) : Prop :=
  (Rd H a (.lst xs) ∧ a ∉ M.no) ∨ ∃ (o : Obj) (its : Array Value) (n : Nat), K.lookup a = some o ∧ o.cls = .type "list" ∧ o.dict = none ∧ o.data = .seq its n ∧ its.size ≤ sizeLine ∧ Vals xs its.toList
mutual
inductive Rp (M : Trk) (H : Hp) : P → V → Prop
  | non : Rp M H .non .non
  | bl (b : Bool) : Rp M H (.bl b) (.bl b)
  | int (i : Int) : Rp M H (.int i) (.int i)
  | str (x : Str) : Rp M H (.str x) (.str x)
  | fn (i : Nat) : Rp M H (.fn i) (.ref (T.fns i))
  | tup {a : Addr} {xs : List V} {ds : List P} : TupM M H a xs → RpA M H ds xs → Rp M H (.tup ds) (.ref a)
  | lst {a : Addr} {xs : List V} {ds : List P} : H a = some (.lst xs) → a ∉ M.no → RpA M H ds xs → Rp M H (.lst ds) (.ref a)
  | ins {a dx : Addr} {c : Nat} {fs : List P} {gs : List (Str × V)} : H a = some (.ins (T.cls c) dx gs) → a ∉ M.no → gs.map (·.1) = (T.nms c).take fs.length → RpA M H fs (gs.map (·.2)) → Rp M H (.ins c fs) (.ref a)
  | dct {a : Addr} {ks : List (List Int)} {vs : List P} {kvs : List (List Key × V)} : H a = some (.dT kvs) → a ∉ M.no → kvs.map (·.1) = ks.map (fun l => l.map Sum.inl) → RpA M H vs (kvs.map (·.2)) → Rp M H (.dct ks vs) (.ref a)
  | scr {a : Addr} {xs : List V} {ds : List P} : LstM K M H a xs → RpA M H ds xs → Rp M H (.scr ds) (.ref a)
inductive RpA (M : Trk) (H : Hp) : List P → List V → Prop
  | nil : RpA M H [] []
  | cons {d : P} {ds : List P} {v : V} {vs : List V} : Rp M H d v → RpA M H ds vs → RpA M H (d :: ds) (v :: vs)
end
inductive RV (M : Trk) (H : Hp) : Vl → V → Prop
  | p {d : P} {v : V} : Rp T K M H d v → RV M H (.p d) v
  | ref {n : Nat} {a : Addr} : M.tk[n]? = some a → RV M H (.ref n) (.ref a)
inductive RVA (M : Trk) (H : Hp) : List Vl → List V → Prop
  | nil : RVA M H [] []
  | cons {d : Vl} {ds : List Vl} {v : V} {vs : List V} : RV T K M H d v → RVA M H ds vs → RVA M H (d :: ds) (v :: vs)
/-- a tracked object -/
inductive Cell (M : Trk) (H : Hp) (a : Addr) : P → Prop
  | lst {xs : List V} {ds : List P} : H a = some (.lst xs) → RpA T K M H ds xs → Cell M H a (.lst ds)
  | ins {dx : Addr} {c : Nat} {fs : List P} {gs : List (Str × V)} : H a = some (.ins (T.cls c) dx gs) → gs.map (·.1) = (T.nms c).take fs.length → RpA T K M H fs (gs.map (·.2)) → Cell M H a (.ins c fs)
end

/-- from one heap to a later one: the tracked addresses grow, what is not tracked stays -/
structure Ext (M : Trk) (H : Hp) (M' : Trk) (H' : Hp) : Prop where
  pre : ∃ m, M'.tk = M.tk ++ m ∧ ∀ a ∈ m, H a = none
  nos : ∀ a ∈ M.no, a ∈ M'.no
  new : ∀ a ∈ M'.no, a ∉ M.no → H a = none
  keep : ∀ a o, H a = some o → a ∉ M.tk → H' a = some o
  live : ∀ a, H' a = none → H a = none
theorem Ext.refl {M : Trk} {H : Hp} : Ext M H M H := ⟨⟨[], by simp⟩, fun _ h => h, fun a h1 h2 => absurd h1 h2, fun _ _ h _ => h, fun _ h => h⟩
theorem Ext.out {M M' : Trk} {H H' : Hp} (e : Ext M H M' H') {a : Addr} {o : HO} (h : H a = some o) (n : a ∉ M.no) : a ∉ M'.no := fun h1 => by
  have q := e.new a h1 n
  rw [h] at q; cases q
theorem Ext.outT {M M' : Trk} {H H' : Hp} (e : Ext M H M' H') {a : Addr} {o : HO} (h : H a = some o) (n : a ∉ M.tk) : a ∉ M'.tk := fun h1 => by
  obtain ⟨m, e1, g1⟩ := e.pre
  rw [e1] at h1
  rcases List.mem_append.mp h1 with z | z
  · exact n z
  · have q := g1 a z
    rw [h] at q; cases q
/-- what data may refer to stays -/
theorem Ext.kept {M M' : Trk} {H H' : Hp} (e : Ext M H M' H') {a : Addr} {o : HO} (h : H a = some o) (n : a ∉ M.no) : H' a = some o := e.keep a o h fun z => n (M.sub a z)
theorem Ext.trans {M M' M'' : Trk} {H H' H'' : Hp} (e : Ext M H M' H') (f : Ext M' H' M'' H'') : Ext M H M'' H'' where
  pre := by
    obtain ⟨m, e1, g1⟩ := e.pre
    obtain ⟨m', e2, g2⟩ := f.pre
    refine ⟨m ++ m', by rw [e2, e1, List.append_assoc], fun a ha => ?_⟩
    rcases List.mem_append.mp ha with z | z
    · exact g1 a z
    · exact e.live a (g2 a z)
  nos := fun a h => f.nos a (e.nos a h)
  new := fun a h1 h2 => by
    by_cases h3 : a ∈ M'.no
    · exact e.new a h3 h2
    · exact e.live a (f.new a h1 h3)
  keep := fun a o h n => f.keep a o (e.keep a o h n) (e.outT h n)
  live := fun a h => e.live a (f.live a h)
theorem Ext.get {M M' : Trk} {H H' : Hp} (e : Ext M H M' H') {n : Nat} {a : Addr} (h : M.tk[n]? = some a) : M'.tk[n]? = some a := by
  obtain ⟨m, e1, _⟩ := e.pre
  rw [e1, List.getElem?_append_left (List.getElem?_eq_some_iff.mp h).1]; exact h
section
variable {T : Tb} {K : PySem.W.Frag} {M M' : Trk} {H H' : Hp}
theorem Ext.rd (e : Ext M H M' H') {a : Addr} {u : HO} (h : Rd H a u) (n : a ∉ M.no) : Rd H' a u ∧ a ∉ M'.no := by
  rcases h with h | ⟨o, h⟩
  · exact ⟨.inl (e.kept h n), e.out h n⟩
  · exact ⟨.inr ⟨o, e.kept h n⟩, e.out h n⟩
theorem TupM.ext {a : Addr} {xs : List V} (h : TupM M H a xs) (e : Ext M H M' H') : TupM M' H' a xs := ⟨e.kept h.1 h.2, e.out h.1 h.2⟩
theorem LstM.ext {a : Addr} {xs : List V} (h : LstM K M H a xs) (e : Ext M H M' H') : LstM K M' H' a xs := by
  rcases h with h | h
  · exact .inl (e.rd h.1 h.2)
  · exact .inr h
mutual
theorem Rp.ext (e : Ext M H M' H') : ∀ {d : P} {v : V}, Rp T K M H d v → Rp T K M' H' d v
  | _, _, .non => .non
  | _, _, .bl b => .bl b
  | _, _, .int i => .int i
  | _, _, .str x => .str x
  | _, _, .fn i => .fn i
  | _, _, .tup h r => .tup (h.ext e) (RpA.ext e r)
  | _, _, .lst h n r => .lst (e.kept h n) (e.out h n) (RpA.ext e r)
  | _, _, .ins h n q r => .ins (e.kept h n) (e.out h n) q (RpA.ext e r)
  | _, _, .dct h n q r => .dct (e.kept h n) (e.out h n) q (RpA.ext e r)
  | _, _, .scr h r => .scr (h.ext e) (RpA.ext e r)
theorem RpA.ext (e : Ext M H M' H') : ∀ {ds : List P} {vs : List V}, RpA T K M H ds vs → RpA T K M' H' ds vs
  | _, _, .nil => .nil
  | _, _, .cons h r => .cons (Rp.ext e h) (RpA.ext e r)
end
theorem RV.ext (e : Ext M H M' H') {d : Vl} {v : V} (h : RV T K M H d v) : RV T K M' H' d v := by
  cases h with
  | p h => exact .p (h.ext e)
  | ref h => exact .ref (e.get h)
theorem RVA.ext (e : Ext M H M' H') : ∀ {ds : List Vl} {vs : List V}, RVA T K M H ds vs → RVA T K M' H' ds vs
  | _, _, .nil => .nil
  | _, _, .cons h r => .cons (h.ext e) (RVA.ext e r)
theorem RpA.length : ∀ {ds : List P} {vs : List V}, RpA T K M H ds vs → ds.length = vs.length
  | _, _, .nil => rfl
  | _, _, .cons _ r => by simp [RpA.length r]
theorem RVA.length : ∀ {ds : List Vl} {vs : List V}, RVA T K M H ds vs → ds.length = vs.length
  | _, _, .nil => rfl
  | _, _, .cons _ r => by simp [RVA.length r]
theorem RpA.get : ∀ {ds : List P} {vs : List V} {i : Nat} {d : P}, RpA T K M H ds vs → ds[i]? = some d → ∃ v, vs[i]? = some v ∧ Rp T K M H d v
  | _, _, _, _, .nil, h => by simp at h
  | _, _, 0, _, .cons h r, e => by simp at e; subst e; exact ⟨_, rfl, h⟩
  | _, _, i + 1, d, .cons h r, e => by
    obtain ⟨v, q, z⟩ := RpA.get (i := i) (d := d) r (by simpa using e)
    exact ⟨v, by simpa using q, z⟩
theorem RpA.get' : ∀ {ds : List P} {vs : List V} {i : Nat} {v : V}, RpA T K M H ds vs → vs[i]? = some v → ∃ d, ds[i]? = some d ∧ Rp T K M H d v
  | _, _, _, _, .nil, h => by simp at h
  | _, _, 0, _, .cons h r, e => by simp at e; subst e; exact ⟨_, rfl, h⟩
  | _, _, i + 1, d, .cons h r, e => by
    obtain ⟨v, q, z⟩ := RpA.get' (i := i) (v := d) r (by simpa using e)
    exact ⟨v, by simpa using q, z⟩
theorem RpA.append : ∀ {ds es : List P} {vs ws : List V}, RpA T K M H ds vs → RpA T K M H es ws → RpA T K M H (ds ++ es) (vs ++ ws)
  | _, _, _, _, .nil, s => s
  | _, _, _, _, .cons h r, s => .cons h (RpA.append r s)
theorem RpA.drop : ∀ {ds : List P} {vs : List V} (n : Nat), RpA T K M H ds vs → RpA T K M H (ds.drop n) (vs.drop n)
  | _, _, 0, r => r
  | _, _, _ + 1, .nil => .nil
  | _, _, n + 1, .cons _ r => RpA.drop n r
theorem RpA.take : ∀ {ds : List P} {vs : List V} (n : Nat), RpA T K M H ds vs → RpA T K M H (ds.take n) (vs.take n)
  | _, _, 0, _ => .nil
  | _, _, _ + 1, .nil => .nil
  | _, _, n + 1, .cons h r => .cons h (RpA.take n r)
theorem RpA.set {d : P} {v : V} (h : Rp T K M H d v) : ∀ {ds : List P} {vs : List V} (n : Nat), RpA T K M H ds vs → RpA T K M H (ds.set n d) (vs.set n v)
  | _, _, _, .nil => .nil
  | _, _, 0, .cons _ r => .cons h r
  | _, _, n + 1, .cons q r => .cons q (RpA.set h n r)
theorem RpA.erase : ∀ {ds : List P} {vs : List V} (n : Nat), RpA T K M H ds vs → RpA T K M H (ds.eraseIdx n) (vs.eraseIdx n)
  | _, _, _, .nil => .nil
  | _, _, 0, .cons _ r => r
  | _, _, n + 1, .cons q r => .cons q (RpA.erase n r)
theorem RpA.reverse : ∀ {ds : List P} {vs : List V}, RpA T K M H ds vs → RpA T K M H ds.reverse vs.reverse
  | _, _, .nil => .nil
  | _, _, .cons h r => by
    rw [List.reverse_cons, List.reverse_cons]
    exact RpA.append (RpA.reverse r) (.cons h .nil)
theorem RpA.ints : ∀ {ns : List Int} {vs : List V}, RpA T K M H (ns.map P.int) vs → vs = ns.map V.int
  | [], _, .nil => rfl
  | _ :: _, _, .cons (.int _) r => by rw [RpA.ints r]; rfl
theorem RpA.of_ints : ∀ (ns : List Int), RpA T K M H (ns.map P.int) (ns.map V.int)
  | [] => .nil
  | _ :: ns => .cons (.int _) (RpA.of_ints ns)
theorem TupM.sqT {a : Addr} {xs : List V} (h : TupM M H a xs) : SqT K H a xs := .inl (.of h.1)
theorem LstM.sqL {a : Addr} {xs : List V} (h : LstM K M H a xs) : SqL K H a xs := by
  rcases h with h | h
  · exact .inl h.1
  · exact .inr h

/-! an object that no data refers to is changed -/
theorem Rd.barred {a b : Addr} {u o : HO} (h : Rd H a u) (n : a ≠ b) : Rd (upd H b o) a u := by
  rcases h with h | ⟨z, h⟩
  · exact .inl (by rw [upd_ne n]; exact h)
  · exact .inr ⟨z, by rw [upd_ne n]; exact h⟩
theorem ne_bar {a b : Addr} (hb : b ∈ M.no) (n : a ∉ M.no) : a ≠ b := fun z => n (by rw [z]; exact hb)
mutual
theorem Rp.barred {b : Addr} {o : HO} (hb : b ∈ M.no) : ∀ {d : P} {v : V}, Rp T K M H d v → Rp T K M (upd H b o) d v
  | _, _, .non => .non
  | _, _, .bl b => .bl b
  | _, _, .int i => .int i
  | _, _, .str x => .str x
  | _, _, .fn i => .fn i
  | _, _, .tup h r => .tup ⟨by rw [upd_ne (ne_bar hb h.2)]; exact h.1, h.2⟩ (RpA.barred hb r)
  | _, _, .lst h n r => .lst (by rw [upd_ne (ne_bar hb n)]; exact h) n (RpA.barred hb r)
  | _, _, .ins h n q r => .ins (by rw [upd_ne (ne_bar hb n)]; exact h) n q (RpA.barred hb r)
  | _, _, .dct h n q r => .dct (by rw [upd_ne (ne_bar hb n)]; exact h) n q (RpA.barred hb r)
  | _, _, .scr h r => .scr (h.elim (fun z => .inl ⟨Rd.barred z.1 (ne_bar hb z.2), z.2⟩) .inr) (RpA.barred hb r)
theorem RpA.barred {b : Addr} {o : HO} (hb : b ∈ M.no) : ∀ {ds : List P} {vs : List V}, RpA T K M H ds vs → RpA T K M (upd H b o) ds vs
  | _, _, .nil => .nil
  | _, _, .cons h r => .cons (Rp.barred hb h) (RpA.barred hb r)
end

/-! weaker tracking -/
mutual
theorem Rp.less (hs : ∀ a ∈ M'.no, a ∈ M.no) : ∀ {d : P} {v : V}, Rp T K M H d v → Rp T K M' H d v
  | _, _, .non => .non
  | _, _, .bl b => .bl b
  | _, _, .int i => .int i
  | _, _, .str x => .str x
  | _, _, .fn i => .fn i
  | _, _, .tup h r => .tup ⟨h.1, fun z => h.2 (hs _ z)⟩ (RpA.less hs r)
  | _, _, .lst h n r => .lst h (fun z => n (hs _ z)) (RpA.less hs r)
  | _, _, .ins h n q r => .ins h (fun z => n (hs _ z)) q (RpA.less hs r)
  | _, _, .dct h n q r => .dct h (fun z => n (hs _ z)) q (RpA.less hs r)
  | _, _, .scr h r => .scr (h.elim (fun z => .inl ⟨z.1, fun y => z.2 (hs _ y)⟩) .inr) (RpA.less hs r)
theorem RpA.less (hs : ∀ a ∈ M'.no, a ∈ M.no) : ∀ {ds : List P} {vs : List V}, RpA T K M H ds vs → RpA T K M' H ds vs
  | _, _, .nil => .nil
  | _, _, .cons h r => .cons (Rp.less hs h) (RpA.less hs r)
end
end

/-- the tracked heap -/
structure HR (T : Tb) (K : PySem.W.Frag) (M : Trk) (H : Hp) (h : List P) : Prop where
  len : M.tk.length = h.length
  nd : M.tk.Nodup
  pos : ∀ a ∈ M.no, H a ≠ none
  at' : ∀ (n : Nat) (a : Addr) (p : P), M.tk[n]? = some a → h[n]? = some p → Cell T K M H a p
/-- the slots -/
abbrev Sl := List (Option Vl)
structure SR (T : Tb) (K : PySem.W.Frag) (M : Trk) (H : Hp) (S : Sl) (σ : L2.St) : Prop where
  len : S.length = σ.length
  at' : ∀ (i : Nat) (v : Vl), S[i]? = some (some v) → ∃ x, σ[i]? = some (some x) ∧ RV T K M H v x
theorem SR.ext {T : Tb} {K : PySem.W.Frag} {M M' : Trk} {H H' : Hp} {S : Sl} {σ : L2.St} (s : SR T K M H S σ) (e : Ext M H M' H') : SR T K M' H' S σ :=
  ⟨s.len, fun i v h => let ⟨x, a, b⟩ := s.at' i v h; ⟨x, a, b.ext e⟩⟩
theorem SR.set {T : Tb} {K : PySem.W.Frag} {M : Trk} {H : Hp} {S : Sl} {σ : L2.St} (s : SR T K M H S σ) {v : Vl} {x : V} (r : RV T K M H v x) (i : Nat) : SR T K M H (S.set i (some v)) (σ.set i (some x)) := by
  refine ⟨by simp [s.len], fun j u h => ?_⟩
  by_cases e : i = j
  · subst e
    have hl : i < S.length := by
      have := (List.getElem?_eq_some_iff.mp h).1
      simpa using this
    rw [List.getElem?_set_self hl] at h
    cases h
    exact ⟨x, by rw [List.getElem?_set_self (by rw [← s.len]; exact hl)], r⟩
  · rw [List.getElem?_set_ne e] at h
    obtain ⟨y, a, b⟩ := s.at' j u h
    exact ⟨y, by rw [List.getElem?_set_ne e]; exact a, b⟩

/-! ### results -/
abbrev Hs := List P
abbrev Rs (α : Type) := Option (Except Nat α × Hs)
abbrev ME := Sl → Hs → Rs Vl
abbrev MA := Sl → Hs → Rs (List Vl)
abbrev MT := Sl → Hs → Rs Bool
def bnd {α β : Type} (r : Rs α) (k : α → Hs → Rs β) : Rs β :=
  match r with
  | none => none
  | some (.error c, h) => some (.error c, h)
  | some (.ok v, h) => k v h
def ret {α : Type} (v : α) (h : Hs) : Rs α := some (.ok v, h)

section
variable (T : Tb) (K : PySem.W.Frag)
/-- what is wanted of a result -/
def post {α β : Type} (R : Trk → Hp → α → β → Prop) (M : Trk) (H : Hp) (Er : Nat → Hp → Prop) (Q : β → Hp → Prop) : Rs α → Prop
  | none => False
  | some (.error c, h') => ∀ M' H', Ext M H M' H' → HR T K M' H' h' → Er c H'
  | some (.ok v, h') => ∀ M' H' x, Ext M H M' H' → HR T K M' H' h' → R M' H' v x → Q x H'
def Req {α : Type} : Trk → Hp → α → α → Prop := fun _ _ a b => a = b
/-- the exceptions' wish at the slots σ -/
def erAt (W : WX) (σ : L2.St) : Nat → Hp → Prop := fun c H => W (.ref (T.exc c)) none σ H
def tr (W : WX) (m : ME) : TE := fun σ H Q => ∃ S M h, SR T K M H S σ ∧ HR T K M H h ∧ post T K (RV T K) M H (erAt T W σ) Q (m S h)
def trA (W : WX) (m : MA) : TA := fun σ H Q => ∃ S M h, SR T K M H S σ ∧ HR T K M H h ∧ post T K (RVA T K) M H (erAt T W σ) Q (m S h)
def trT (W : WX) (m : MT) : TT := fun σ H Q => ∃ S M h, SR T K M H S σ ∧ HR T K M H h ∧ post T K Req M H (erAt T W σ) Q (m S h)
end
section
variable {T : Tb} {K : PySem.W.Frag} {M M' : Trk} {H H' : Hp} {α β γ δ : Type} {R : Trk → Hp → α → β → Prop} {R2 : Trk → Hp → γ → δ → Prop} {Er : Nat → Hp → Prop} {Q : β → Hp → Prop} {Q2 : δ → Hp → Prop}
theorem post.ext {r : Rs α} (p : post T K R M H Er Q r) (e : Ext M H M' H') : post T K R M' H' Er Q r := by
  match r, p with
  | some (.error c, h'), p => exact fun M2 H2 e2 => p M2 H2 (e.trans e2)
  | some (.ok v, h'), p => exact fun M2 H2 x e2 => p M2 H2 x (e.trans e2)
theorem post.bnd {r : Rs α} {k : α → Hs → Rs γ} (p : post T K R2 M H Er Q2 (bnd r k))
    (f : ∀ v h1 M1 H1 x, Ext M H M1 H1 → HR T K M1 H1 h1 → R M1 H1 v x → post T K R2 M1 H1 Er Q2 (k v h1) → Q x H1) : post T K R M H Er Q r := by
  match r, p with
  | some (.error c, h'), p => exact p
  | some (.ok v, h'), p => exact fun M1 H1 x e hr rx => f v h' M1 H1 x e hr rx (post.ext (r := k v h') p e)
theorem post.imp {r : Rs α} (p : post T K R M H Er Q r) {Q' : β → Hp → Prop} (f : ∀ x H1, Q x H1 → Q' x H1) : post T K R M H Er Q' r := by
  match r, p with
  | some (.error c, h'), p => exact p
  | some (.ok v, h'), p => exact fun M1 H1 x e hr rx => f _ _ (p M1 H1 x e hr rx)
theorem post.ret {v : α} {h : Hs} (p : post T K R M H Er Q (ret v h)) {M1 : Trk} {H1 : Hp} {x : β} (e : Ext M H M1 H1) (hr : HR T K M1 H1 h) (r : R M1 H1 v x) : Q x H1 := p M1 H1 x e hr r
end

/-! ### simulations -/
section
variable (T : Tb) (X : Cx) (W : WX)
abbrev SimE (e : Expr) (m : ME) : Prop := PE X e (tr T X.K W m)
abbrev SimA (es : List Expr) (m : MA) : Prop := PA X es (trA T X.K W m)
abbrev SimT (e : Expr) (m : MT) : Prop := PT X e (trT T X.K W m)
end
theorem PE.weak {X : Cx} {e : Expr} {t t' : TE} (h : PE X e t) (f : ∀ σ H Q, t' σ H Q → t σ H Q) : PE X e t' := ⟨fun pins s σ H Q I q => h.run pins s σ H Q I (f σ H Q q)⟩
theorem PT.weak {X : Cx} {e : Expr} {t t' : TT} (h : PT X e t) (f : ∀ σ H Q, t' σ H Q → t σ H Q) : PT X e t' := ⟨fun pins s σ H Q I q => h.run pins s σ H Q I (f σ H Q q)⟩
theorem PA.weak {X : Cx} {e : List Expr} {t t' : TA} (h : PA X e t) (f : ∀ σ H Q, t' σ H Q → t σ H Q) : PA X e t' := ⟨fun p pins s σ H Q I q => h.run p pins s σ H Q I (f σ H Q q)⟩
theorem PS.weak {X : Cx} {e : Stmt} {t t' : TS} (h : PS X e t) (f : ∀ D σ H, t' D σ H → t D σ H) : PS X e t' := ⟨fun pins s σ H D I q => h.run pins s σ H D I (f D σ H q)⟩
theorem PSs.weak {X : Cx} {e : List Stmt} {t t' : TS} (h : PSs X e t) (f : ∀ D σ H, t' D σ H → t D σ H) : PSs X e t' := ⟨fun pins s σ H D I q => h.run pins s σ H D I (f D σ H q)⟩

section
variable {T : Tb} {X : Cx} {W : WX}
def mVar (i : Nat) : ME := fun S h => match S[i]? with
  | some (some v) => ret v h
  | _ => none
theorem sim_var (i : Nat) {x : Str} {pos : Pos} (hN : X.N[i]? = some x := by rfl) (hv : Vis X.env.scope x := by first | exact Or.inl rfl | exact Or.inr (Or.inl rfl) | exact Or.inr (Or.inr rfl)) (hd : (x == ("__debug__" : Str)) = false := by decide)
    (hcd : (x == ("__classdict__" : Str)) = false := by decide) : SimE T X W (.Name x pos) (mVar i) := by
  refine PE.weak (pe_var hN hv hd hcd) fun σ H Q ⟨S, M, h, sr, hr, p⟩ => ?_
  unfold mVar at p
  split at p
  · rename_i v e
    obtain ⟨y, ey, ry⟩ := sr.at' i v e
    exact ⟨y, ey, p.ret .refl hr ry⟩
  · exact p.elim
def mC (d : P) : ME := fun _ h => ret (.p d) h
theorem sim_int {i : Int} {j : Nat} {pos : Pos} : SimE T X W (.Constant (.int i) j pos) (mC (.int i)) := PE.weak pe_int fun σ H Q ⟨_, _, _, _, hr, p⟩ => p.ret .refl hr (.p (.int i))
theorem sim_bl {i : Bool} {j : Nat} {pos : Pos} : SimE T X W (.Constant (.bool i) j pos) (mC (.bl i)) := PE.weak pe_bl fun σ H Q ⟨_, _, _, _, hr, p⟩ => p.ret .refl hr (.p (.bl i))
theorem sim_non {j : Nat} {pos : Pos} : SimE T X W (.Constant .none j pos) (mC .non) := PE.weak pe_non fun σ H Q ⟨_, _, _, _, hr, p⟩ => p.ret .refl hr (.p .non)
theorem sim_str {i : Str} {j : Nat} {pos : Pos} : SimE T X W (.Constant (.str i) j pos) (mC (.str i)) := PE.weak pe_str fun σ H Q ⟨_, _, _, _, hr, p⟩ => p.ret .refl hr (.p (.str i))

/-- two expressions in a row, from the left -/
theorem tr_then {m : ME} {k : Vl → Hs → Rs Vl} {S : Sl} {M : Trk} {h : Hs} {σ : L2.St} {H : Hp} {Q : VK} {G : V → Hp → Prop} (sr : SR T X.K M H S σ) (hr : HR T X.K M H h)
    (p : post T X.K (RV T X.K) M H (erAt T W σ) Q (bnd (m S h) k))
    (f : ∀ v h1 M1 H1 x, Ext M H M1 H1 → SR T X.K M1 H1 S σ → HR T X.K M1 H1 h1 → RV T X.K M1 H1 v x → post T X.K (RV T X.K) M1 H1 (erAt T W σ) Q (k v h1) → G x H1) : tr T X.K W m σ H G :=
  ⟨S, M, h, sr, hr, p.bnd fun v h1 M1 H1 x e hr1 r q => f v h1 M1 H1 x e (sr.ext e) hr1 r q⟩

/-- what a rule of two values does -/
def Op2 (T : Tb) (K : PySem.W.Frag) (f : Vl → Vl → Hs → Rs Vl) (r : R2) : Prop :=
  ∀ M H h v w x y Er Q, HR T K M H h → RV T K M H v x → RV T K M H w y → post T K (RV T K) M H Er Q (f v w h) → r x y H Q
def Op1 (T : Tb) (K : PySem.W.Frag) (f : Vl → Hs → Rs Vl) (r : V → Hp → VK → Prop) : Prop :=
  ∀ M H h v x Er Q, HR T K M H h → RV T K M H v x → post T K (RV T K) M H Er Q (f v h) → r x H Q
def OpN (T : Tb) (K : PySem.W.Frag) (f : List Vl → Hs → Rs Vl) (r : List V → Hp → VK → Prop) : Prop :=
  ∀ M H h vs xs Er Q, HR T K M H h → RVA T K M H vs xs → post T K (RV T K) M H Er Q (f vs h) → r xs H Q
def m2 (f : Vl → Vl → Hs → Rs Vl) (a b : ME) : ME := fun S h => bnd (a S h) fun v h1 => bnd (b S h1) fun w h2 => f v w h2
def m1 (f : Vl → Hs → Rs Vl) (a : ME) : ME := fun S h => bnd (a S h) f
theorem tr_op {f : Vl → Vl → Hs → Rs Vl} {r : R2} (hf : Op2 T X.K f r) {a b : ME} {σ : L2.St} {H : Hp} {Q : VK} (h : tr T X.K W (m2 f a b) σ H Q) : tOp r (tr T X.K W a) (tr T X.K W b) σ H Q := by
  obtain ⟨S, M, h, sr, hr, p⟩ := h
  refine tr_then sr hr p fun v h1 M1 H1 x e1 sr1 hr1 r1 p1 => ?_
  refine tr_then sr1 hr1 p1 fun w h2 M2 H2 y e2 sr2 hr2 r2 p2 => ?_
  exact hf M2 H2 h2 v w x y _ Q hr2 (r1.ext e2) r2 p2
theorem tr_un {f : Vl → Hs → Rs Vl} {r : V → Hp → VK → Prop} (hf : Op1 T X.K f r) {a : ME} {σ : L2.St} {H : Hp} {Q : VK} (h : tr T X.K W (m1 f a) σ H Q) : tUn r (tr T X.K W a) σ H Q := by
  obtain ⟨S, M, h, sr, hr, p⟩ := h
  refine tr_then sr hr p fun v h1 M1 H1 x e1 sr1 hr1 r1 p1 => ?_
  exact hf M1 H1 h1 v x _ Q hr1 r1 p1
theorem sim_op {op : Operator} {f : Vl → Vl → Hs → Rs Vl} {r : R2} {ea eb : Expr} {a b : ME} {pos : Pos} (ho : OpR X (binaryOp op) r) (hf : Op2 T X.K f r) (ha : SimE T X W ea a) (hb : SimE T X W eb b) : SimE T X W (.BinOp ea op eb pos) (m2 f a b) :=
  PE.weak (pe_op ho ha hb) fun _ _ _ h => tr_op hf h
theorem sim_cmp {op : CmpOp} {f : Vl → Vl → Hs → Rs Vl} {r : R2} {ea eb : Expr} {a b : ME} {pos : Pos} (ho : OpR X (compareOp op) r) (hf : Op2 T X.K f r) (hm : behindInMarks op eb = false) (ha : SimE T X W ea a) (hb : SimE T X W eb b) : SimE T X W (.Compare ea [op] [eb] pos) (m2 f a b) :=
  PE.weak (pe_cmpR ho ha hb hm) fun _ _ _ h => tr_op hf h
theorem sim_un {op : UnaryOp} {f : Vl → Hs → Rs Vl} {r : V → Hp → VK → Prop} {ea : Expr} {a : ME} {pos : Pos} (ho : UnR X (unaryOp op) r) (hf : Op1 T X.K f r) (ha : SimE T X W ea a) : SimE T X W (.UnaryOp op ea pos) (m1 f a) :=
  PE.weak (pe_un ho ha) fun _ _ _ h => tr_un hf h

/-! argument lists -/
def aNil : MA := fun _ h => ret [] h
def aCons (a : ME) (r : MA) : MA := fun S h => bnd (a S h) fun v h1 => bnd (r S h1) fun vs h2 => ret (v :: vs) h2
theorem sim_nil : SimA T X W [] aNil := PA.weak pa_nil fun σ H Q ⟨_, _, _, _, hr, p⟩ => p.ret .refl hr .nil
theorem sim_cons {e : Expr} {es : List Expr} {a : ME} {r : MA} (ha : SimE T X W e a) (hr : SimA T X W es r) (hs : starEach (e :: es) X.env = (false, eval e X.env) :: starEach es X.env := by rfl) : SimA T X W (e :: es) (aCons a r) := by
  refine PA.weak (pa_cons ha hr hs) fun σ H Q ⟨S, M, h, sr, hr, p⟩ => ?_
  refine ⟨S, M, h, sr, hr, p.bnd fun v h1 M1 H1 x e1 hr1 r1 p1 => ?_⟩
  refine ⟨S, M1, h1, sr.ext e1, hr1, p1.bnd fun vs h2 M2 H2 xs e2 hr2 r2 p2 => ?_⟩
  exact p2.ret .refl hr2 (.cons (r1.ext e2) r2)
end
end EV
end T0
section T1
set_option Elab.async false
set_option linter.all false
set_option maxRecDepth 100000
namespace EV
open PySem PySem.Spec PyProof.Rows L2

theorem le_line {n : Nat} (h : n ≤ 16777216) : n ≤ sizeLine := h
theorem lt_line {n : Nat} (h : n < 16777216) : n < sizeLine := h

section
variable {T : Tb} {K : PySem.W.Frag} {M M' : Trk} {H H' : Hp} {h : Hs}
/-! ### a new object -/
theorem live_upd {p a : Addr} {o : HO} (h : upd H p o a = none) : H a = none := by
  by_cases e : a = p
  · rw [e, upd_same] at h; cases h
  · rw [upd_ne e] at h; exact h
theorem Ext.fresh {p : Addr} {o : HO} (hp : H p = none) : Ext M H M (upd H p o) :=
  ⟨⟨[], by simp⟩, fun _ h => h, fun a h1 h2 => absurd h1 h2, fun a u e _ => by rw [upd_ne (ne_of_none e hp)]; exact e, fun _ h => live_upd h⟩
abbrev Trk.add (M : Trk) (p : Addr) : Trk := ⟨M.tk ++ [p], M.no ++ [p], fun a h => (List.mem_append.mp h).elim (fun z => List.mem_append_left _ (M.sub a z)) fun z => List.mem_append_right _ z⟩
abbrev Trk.bar (M : Trk) (p : Addr) : Trk := ⟨M.tk, M.no ++ [p], fun a h => List.mem_append_left _ (M.sub a h)⟩
theorem Ext.bar {p : Addr} {o : HO} (hp : H p = none) : Ext M H (M.bar p) (upd H p o) := by
  refine ⟨⟨[], by simp⟩, fun a h => List.mem_append_left _ h, fun a h1 h2 => ?_, fun a u e _ => by rw [upd_ne (ne_of_none e hp)]; exact e, fun _ h => live_upd h⟩
  rcases List.mem_append.mp h1 with z | z
  · exact absurd z h2
  · have e : a = p := by simpa using z
    rw [e]; exact hp
theorem Ext.track {p : Addr} {o : HO} (hp : H p = none) : Ext M H (M.add p) (upd H p o) := by
  refine ⟨⟨[p], rfl, fun a ha => by rw [show a = p by simpa using ha]; exact hp⟩, fun a h => List.mem_append_left _ h, fun a h1 h2 => ?_, fun a u e _ => by rw [upd_ne (ne_of_none e hp)]; exact e, fun _ h => live_upd h⟩
  rcases List.mem_append.mp h1 with z | z
  · exact absurd z h2
  · have e : a = p := by simpa using z
    rw [e]; exact hp
theorem Cell.obj {a : Addr} {d : P} (c : Cell T K M H a d) : ∃ o, H a = some o := by
  cases c with
  | lst e _ => exact ⟨_, e⟩
  | ins e _ _ => exact ⟨_, e⟩
theorem HR.got (hr : HR T K M H h) {n : Nat} {a : Addr} (e : M.tk[n]? = some a) : ∃ p, h[n]? = some p ∧ Cell T K M H a p := by
  have hl : n < h.length := by rw [← hr.len]; exact (List.getElem?_eq_some_iff.mp e).1
  exact ⟨h[n], List.getElem?_eq_getElem hl, hr.at' n a _ e (List.getElem?_eq_getElem hl)⟩
theorem HR.none_out (hr : HR T K M H h) {p : Addr} (hp : H p = none) : p ∉ M.no := fun z => hr.pos p z hp
theorem HR.none_out' (hr : HR T K M H h) {p : Addr} (hp : H p = none) : p ∉ M.tk := fun z => hr.none_out hp (M.sub p z)
theorem Cell.keep {a : Addr} {d : P} (c : Cell T K M H a d) (e : Ext M H M' H') (k : ∀ o, H a = some o → H' a = some o) : Cell T K M' H' a d := by
  cases c with
  | lst q r => exact .lst (k _ q) (r.ext e)
  | ins q n r => exact .ins (k _ q) n (r.ext e)
theorem pos_upd {p a : Addr} {o : HO} (h : H a ≠ none) : L2.upd H p o a ≠ none := by
  by_cases e : a = p
  · rw [e, upd_same]; exact fun z => by cases z
  · rw [upd_ne e]; exact h
theorem HR.fresh (hr : HR T K M H h) {p : Addr} {o : HO} (hp : H p = none) : HR T K M (upd H p o) h :=
  ⟨hr.len, hr.nd, fun a ha => pos_upd (hr.pos a ha), fun n a d e1 e2 => (hr.at' n a d e1 e2).keep (.fresh hp) fun u q => by rw [upd_ne (ne_of_none q hp)]; exact q⟩
theorem pos_add {p a : Addr} {o : HO} (hs : ∀ a ∈ M.no, H a ≠ none) (ha : a ∈ M.no ++ [p]) : L2.upd H p o a ≠ none := by
  rcases List.mem_append.mp ha with z | z
  · exact pos_upd (hs a z)
  · have e : a = p := by simpa using z
    rw [e, upd_same]; exact fun z => by cases z
theorem HR.bar (hr : HR T K M H h) {p : Addr} {o : HO} (hp : H p = none) : HR T K (M.bar p) (upd H p o) h :=
  ⟨hr.len, hr.nd, fun a ha => pos_add hr.pos ha, fun n a d e1 e2 => (hr.at' n a d e1 e2).keep (.bar hp) fun u q => by rw [upd_ne (ne_of_none q hp)]; exact q⟩
theorem HR.track (hr : HR T K M H h) {p : Addr} {o : HO} {d : P} (hp : H p = none) (c : Cell T K (M.add p) (L2.upd H p o) p d) : HR T K (M.add p) (L2.upd H p o) (h ++ [d]) := by
  refine ⟨by simp [hr.len], List.nodup_append.mpr ⟨hr.nd, by simp, fun a h1 b h2 e => ?_⟩, fun a ha => pos_add hr.pos ha, fun n a e e1 e2 => ?_⟩
  · have e' : b = p := by simpa using h2
    exact hr.none_out' hp (by rw [← e', ← e]; exact h1)
  · have e1 : (M.tk ++ [p])[n]? = some a := e1
    by_cases hn : n < M.tk.length
    · rw [List.getElem?_append_left hn] at e1
      rw [List.getElem?_append_left (by rw [← hr.len]; exact hn)] at e2
      exact (hr.at' n a e e1 e2).keep (.track hp) fun u q => by rw [upd_ne (ne_of_none q hp)]; exact q
    · rw [List.getElem?_append_right (Nat.le_of_not_lt hn)] at e1
      rw [List.getElem?_append_right (by rw [← hr.len]; exact Nat.le_of_not_lt hn), ← hr.len] at e2
      cases hk : n - M.tk.length with
      | zero =>
        rw [hk] at e1 e2
        simp at e1 e2
        subst e1 e2
        exact c
      | succ m => rw [hk] at e1; simp at e1
/-- what is barred may change -/
theorem Ext.write {a : Addr} {o : HO} (ha : a ∈ M.tk) : Ext M H M (L2.upd H a o) :=
  ⟨⟨[], by simp⟩, fun _ h => h, fun a h1 h2 => absurd h1 h2, fun b u e n => by rw [upd_ne (fun z => n (by rw [z]; exact ha))]; exact e, fun _ h => live_upd h⟩
theorem HR.write (hr : HR T K M H h) {n : Nat} {a : Addr} {o : HO} {d : P} (e : M.tk[n]? = some a) (c : Cell T K M (L2.upd H a o) a d) : HR T K M (L2.upd H a o) (h.set n d) := by
  have ha : a ∈ M.tk := List.mem_of_getElem? e
  refine ⟨by simp [hr.len], hr.nd, fun a ha => pos_upd (hr.pos a ha), fun m b q e1 e2 => ?_⟩
  have hl : n < h.length := by rw [← hr.len]; exact (List.getElem?_eq_some_iff.mp e).1
  by_cases hm : n = m
  · subst hm
    rw [e] at e1; cases e1
    rw [List.getElem?_set_self hl] at e2; cases e2
    exact c
  · rw [List.getElem?_set_ne hm] at e2
    refine (hr.at' m b q e1 e2).keep (.write ha) fun u z => ?_
    have hb : b ≠ a := fun y => by
      subst y
      obtain ⟨h1, q1⟩ := List.getElem?_eq_some_iff.mp e
      obtain ⟨h2, q2⟩ := List.getElem?_eq_some_iff.mp e1
      exact hm ((List.getElem_inj hr.nd).mp (q1.trans q2.symm))
    rw [upd_ne hb]; exact z
/-- .. what is barred and not tracked -/
theorem Cell.barred {a b : Addr} {o : HO} {d : P} (c : Cell T K M H a d) (hb : b ∈ M.no) (n : a ≠ b) : Cell T K M (L2.upd H b o) a d := by
  cases c with
  | lst q r => exact .lst (by rw [upd_ne n]; exact q) (r.barred hb)
  | ins q e r => exact .ins (by rw [upd_ne n]; exact q) e (r.barred hb)
theorem HR.writeN (hr : HR T K M H h) {a : Addr} {o : HO} (ha : a ∈ M.no) (hn : a ∉ M.tk) : HR T K M (L2.upd H a o) h :=
  ⟨hr.len, hr.nd, fun a ha => pos_upd (hr.pos a ha), fun m b q e1 e2 => (hr.at' m b q e1 e2).barred ha fun y => hn (by rw [← y]; exact List.mem_of_getElem? e1)⟩
/-- a new pure tuple, list -/
theorem new_tup (hr : HR T K M H h) {p : Addr} {xs : List V} {ds : List P} (hp : H p = none) (r : RpA T K M H ds xs) : RV T K M (L2.upd H p (.tup xs)) (.p (.tup ds)) (.ref p) :=
  .p (.tup ⟨upd_same, hr.none_out hp⟩ (r.ext (.fresh hp)))
theorem new_lst (hr : HR T K M H h) {p : Addr} {xs : List V} {ds : List P} (hp : H p = none) (r : RpA T K M H ds xs) : RV T K M (L2.upd H p (.lst xs)) (.p (.lst ds)) (.ref p) :=
  .p (.lst upd_same (hr.none_out hp) (r.ext (.fresh hp)))
theorem trk_lst (hr : HR T K M H h) {p : Addr} {xs : List V} {ds : List P} (hp : H p = none) (r : RpA T K M H ds xs) : HR T K (M.add p) (L2.upd H p (.lst xs)) (h ++ [.lst ds]) :=
  hr.track hp (.lst upd_same (r.ext (.track hp)))
/-- fewer are barred -/
theorem Cell.less {a : Addr} {d : P} (c : Cell T K M H a d) (hs : ∀ a ∈ M'.no, a ∈ M.no) : Cell T K M' H a d := by
  cases c with
  | lst q r => exact .lst q (r.less hs)
  | ins q n r => exact .ins q n (r.less hs)
theorem HR.less (hr : HR T K M H h) (ht : M'.tk = M.tk) (hs : ∀ a ∈ M'.no, a ∈ M.no) : HR T K M' H h :=
  ⟨by rw [ht]; exact hr.len, by rw [ht]; exact hr.nd, fun a ha => hr.pos a (hs a ha), fun n a p e1 e2 => (hr.at' n a p (by rw [← ht]; exact e1) e2).less hs⟩
end

/-! ### data as the library's -/
mutual
def pyOf : P → Option PyData
  | .non => some .none
  | .bl b => some (.bool b)
  | .int i => some (.int i)
  | .str x => some (.str x)
  | .tup ds => match pyAll ds with | some l => some (.tuple l) | none => none
  | .lst ds => match pyAll ds with | some l => some (.list l) | none => none
  | .scr ds => match pyAll ds with | some l => some (.list l) | none => none
  | .ins _ _ => none
  | .dct _ _ => none
  | .fn _ => none
def pyAll : List P → Option (List PyData)
  | [] => some []
  | d :: ds => match pyOf d with
    | some x => match pyAll ds with
      | some l => some (x :: l)
      | none => none
    | none => none
end
section
variable {T : Tb} {K : PySem.W.Frag} {M : Trk} {H : Hp} {h : Hs}
mutual
theorem Rp.dp : ∀ {d : P} {v : V} {x : PyData}, Rp T K M H d v → pyOf d = some x → Dp K H v x
  | _, _, _, .non, e => by simp only [pyOf, Option.some.injEq] at e; subst e; exact .non
  | _, _, _, .bl b, e => by simp only [pyOf, Option.some.injEq] at e; subst e; exact .bl b
  | _, _, _, .int b, e => by simp only [pyOf, Option.some.injEq] at e; subst e; exact .int b
  | _, _, _, .str b, e => by simp only [pyOf, Option.some.injEq] at e; subst e; exact .str b
  | _, _, _, .tup (ds := ds) hs r, e => by
    simp only [pyOf] at e
    cases q : pyAll ds with
    | none => rw [q] at e; cases e
    | some l => rw [q] at e; cases e; exact .tup hs.sqT (RpA.dp r q)
  | _, _, _, .lst (ds := ds) hs n r, e => by
    simp only [pyOf] at e
    cases q : pyAll ds with
    | none => rw [q] at e; cases e
    | some l => rw [q] at e; cases e; exact .lst (.of hs) (RpA.dp r q)
  | _, _, _, .scr (ds := ds) hs r, e => by
    simp only [pyOf] at e
    cases q : pyAll ds with
    | none => rw [q] at e; cases e
    | some l => rw [q] at e; cases e; exact .lst hs.sqL (RpA.dp r q)
  | _, _, _, .ins _ _ _ _, e => by simp [pyOf] at e
  | _, _, _, .dct _ _ _ _, e => by simp [pyOf] at e
  | _, _, _, .fn _, e => by simp [pyOf] at e
theorem RpA.dp : ∀ {ds : List P} {vs : List V} {l : List PyData}, RpA T K M H ds vs → pyAll ds = some l → DpAll K H vs l
  | _, _, _, .nil, e => by simp only [pyAll, Option.some.injEq] at e; subst e; exact .nil
  | _, _, _, .cons (d := d) (ds := ds) hd r, e => by
    simp only [pyAll] at e
    cases q : pyOf d with
    | none => rw [q] at e; cases e
    | some x =>
      rw [q] at e
      cases q2 : pyAll ds with
      | none => rw [q2] at e; cases e
      | some l => rw [q2] at e; cases e; exact .cons (Rp.dp hd q) (RpA.dp r q2)
end
def pyV (v : Vl) (h : Hs) : Option PyData := match v with
  | .p d => pyOf d
  | .ref n => match h[n]? with
    | some (.lst ds) => match pyAll ds with | some l => some (.list l) | none => none
    | _ => none
theorem RV.dp {v : Vl} {x : V} {d : PyData} (hr : HR T K M H h) (r : RV T K M H v x) (e : pyV v h = some d) : Dp K H x d := by
  cases r with
  | p r => exact r.dp e
  | ref q =>
    obtain ⟨p, hp, c⟩ := hr.got q
    simp only [pyV, hp] at e
    cases c with
    | lst z r =>
      rename_i xs ds
      have e : (match pyAll ds with | some l => some (PyData.list l) | none => none) = some d := e
      cases q : pyAll ds with
      | none => rw [q] at e; cases e
      | some l => rw [q] at e; cases e; exact .lst (.of z) (r.dp q)
    | ins _ _ _ => cases e
end

/-! ### operators -/
section
variable {T : Tb} {K : PySem.W.Frag}
def pI (i : Int) (h : Hs) : Rs Vl := ret (.p (.int i)) h
def pB (b : Bool) (h : Hs) : Rs Vl := ret (.p (.bl b)) h
def fAdd (v w : Vl) (h : Hs) : Rs Vl := match v, w with
  | .p (.int i), .p (.int j) => pI (i + j) h
  | .p (.str x), .p (.str y) => if x.length + y.length ≤ 16777216 then ret (.p (.str (x ++ y))) h else none
  | .p (.tup a), .p (.tup b) => if a.length + b.length ≤ 16777216 then ret (.p (.tup (a ++ b))) h else none
  | .p (.lst a), .p (.lst b) => if a.length + b.length ≤ 16777216 then ret (.p (.lst (a ++ b))) h else none
  | _, _ => none
abbrev rI0add : R2 := rI0 fun i j => .int (i + j)
abbrev rSadd : R2 := fun x y H Q => ∃ i j, x = .str i ∧ y = .str j ∧ i.length + j.length ≤ sizeLine ∧ Q (.str (i ++ j)) H
abbrev rAdd4 (K : PySem.W.Frag) : R2 := fun x y H Q => rI0add x y H Q ∨ (rSadd x y H Q ∨ (rCatA K x y H Q ∨ rCat x y H Q))
theorem or_add {X : Cx} : OpR X (binaryOp .Add) (rAdd4 X.K) := op_add.or (op_add_str.or (op_catA.or op_cat))
theorem s_add : Op2 T K fAdd (rAdd4 K) := by
  intro M H h v w x y Er Q hr rx ry p
  unfold fAdd at p
  split at p
  · cases rx with | p rx => cases rx; cases ry with | p ry => cases ry; exact .inl ⟨_, _, rfl, rfl, p.ret .refl hr (.p (.int _))⟩
  · split at p
    · rename_i hz
      cases rx with | p rx => cases rx; cases ry with | p ry => cases ry; exact .inr (.inl ⟨_, _, rfl, rfl, le_line hz, p.ret .refl hr (.p (.str _))⟩)
    · exact p.elim
  · split at p
    · rename_i hz
      cases rx with
      | p rx =>
        cases ry with
        | p ry =>
          cases rx with
          | tup tx ra =>
            rename_i a xs
            cases ry with
            | tup ty rb =>
              rename_i b ys
              refine .inr (.inr (.inl ⟨a, b, xs, ys, rfl, rfl, tx.sqT, ty.sqT, ?_, fun e => ?_, fun _ e => ?_, fun _ _ q hq => ?_⟩))
              · rw [← ra.length, ← rb.length]; exact le_line hz
              · subst e
                cases ra
                exact p.ret .refl hr (.p (.tup ty rb))
              · subst e
                cases rb
                rw [List.append_nil] at p
                exact p.ret .refl hr (.p (.tup tx ra))
              · exact p.ret (.fresh hq) (hr.fresh hq) (new_tup hr hq (ra.append rb))
    · exact p.elim
  · split at p
    · rename_i hz
      cases rx with
      | p rx =>
        cases ry with
        | p ry =>
          cases rx with
          | lst tx nx ra =>
            rename_i a xs
            cases ry with
            | lst ty ny rb =>
              rename_i b ys
              refine .inr (.inr (.inr ⟨a, b, xs, ys, rfl, rfl, tx, ty, ?_, fun q hq => ?_⟩))
              · rw [← ra.length, ← rb.length]; exact le_line hz
              · exact p.ret (.fresh hq) (hr.fresh hq) (new_lst hr hq (ra.append rb))
    · exact p.elim
  · exact p.elim
theorem sim_add {X : Cx} {W : WX} {ea eb : Expr} {a b : ME} {pos : Pos} (ha : SimE T X W ea a) (hb : SimE T X W eb b) : SimE T X W (.BinOp ea .Add eb pos) (m2 fAdd a b) := sim_op or_add s_add ha hb

/-- two ints by a rule -/
def fI2 (C : Int → Int → Bool) (g : Int → Int → P) (v w : Vl) (h : Hs) : Rs Vl := match v, w with
  | .p (.int i), .p (.int j) => if C i j = true then ret (.p (g i j)) h else none
  | _, _ => none
theorem s_I2 {C : Int → Int → Bool} {D : Int → Int → Prop} {g : Int → Int → P} {g' : Int → Int → V} (hC : ∀ i j, C i j = true → D i j) (hg : ∀ M H i j, Rp T K M H (g i j) (g' i j)) : Op2 T K (fI2 C g) (rI D g') := by
  intro M H h v w x y Er Q hr rx ry p
  unfold fI2 at p
  split at p
  · split at p
    · rename_i hc
      cases rx with | p rx => cases rx; cases ry with | p ry => cases ry; exact ⟨_, _, rfl, rfl, hC _ _ hc, p.ret .refl hr (.p (hg _ _ _ _))⟩
    · exact p.elim
  · exact p.elim
theorem s_I0 {g : Int → Int → P} {g' : Int → Int → V} (hg : ∀ M H i j, Rp T K M H (g i j) (g' i j)) : Op2 T K (fI2 (fun _ _ => true) g) (rI0 g') := by
  intro M H h v w x y Er Q hr rx ry p
  unfold fI2 at p
  split at p
  · cases rx with | p rx => cases rx; cases ry with | p ry => cases ry; exact ⟨_, _, rfl, rfl, p.ret .refl hr (.p (hg _ _ _ _))⟩
  · exact p.elim
def cT : Int → Int → Bool := fun _ _ => true
abbrev fSub := fI2 (fun _ _ => true) fun i j => .int (i - j)
abbrev fXor := fI2 (fun _ _ => true) fun i j => .int (Builtin.bitXor i j)
abbrev fLt := fI2 (fun _ _ => true) fun i j => .bl (decide (i < j))
abbrev fLe := fI2 (fun _ _ => true) fun i j => .bl (decide (i ≤ j))
abbrev fGt := fI2 (fun _ _ => true) fun i j => .bl (decide (j < i))
abbrev fGe := fI2 (fun _ _ => true) fun i j => .bl (decide (j ≤ i))
abbrev fMod := fI2 (fun _ j => decide (0 < j)) fun i j => .int (i % j)
abbrev fDiv := fI2 (fun _ j => decide (0 < j) && decide (j < 1073741824)) fun i j => .int (i / j)
abbrev fPow := fI2 (fun i j => decide (0 ≤ j) && decide (j ≤ 1000000) && decide (i.natAbs < 2 ^ 64)) fun i j => .int (i ^ j.toNat)
abbrev fShl := fI2 (fun i j => decide (0 ≤ j) && decide (j ≤ 1000000) && decide (i.natAbs < 2 ^ 64)) fun i j => .int (i * 2 ^ j.toNat)
theorem cpow_of {i j : Int} (h : (decide (0 ≤ j) && decide (j ≤ 1000000) && decide (i.natAbs < 2 ^ 64)) = true) : CPow i j := by
  simp only [Bool.and_eq_true, decide_eq_true_eq] at h
  exact ⟨h.1.1, h.1.2, h.2⟩
section
variable {X : Cx} {W : WX} {ea eb : Expr} {a b : ME} {pos : Pos}
theorem sim_sub (ha : SimE T X W ea a) (hb : SimE T X W eb b) : SimE T X W (.BinOp ea .Sub eb pos) (m2 fSub a b) := sim_op op_sub (s_I0 fun _ _ _ _ => .int _) ha hb
theorem sim_xor (ha : SimE T X W ea a) (hb : SimE T X W eb b) : SimE T X W (.BinOp ea .BitXor eb pos) (m2 fXor a b) := sim_op op_xor (s_I0 fun _ _ _ _ => .int _) ha hb
theorem sim_mod (ha : SimE T X W ea a) (hb : SimE T X W eb b) : SimE T X W (.BinOp ea .Mod eb pos) (m2 fMod a b) := sim_op op_mod (s_I2 (fun _ _ h => of_decide_eq_true h) fun _ _ _ _ => .int _) ha hb
theorem sim_div (ha : SimE T X W ea a) (hb : SimE T X W eb b) : SimE T X W (.BinOp ea .FloorDiv eb pos) (m2 fDiv a b) :=
  sim_op op_fdiv (s_I2 (fun _ _ h => by simp only [Bool.and_eq_true, decide_eq_true_eq] at h; exact h) fun _ _ _ _ => .int _) ha hb
theorem sim_pow (ha : SimE T X W ea a) (hb : SimE T X W eb b) : SimE T X W (.BinOp ea .Pow eb pos) (m2 fPow a b) := sim_op op_pow (s_I2 (fun _ _ h => cpow_of h) fun _ _ _ _ => .int _) ha hb
theorem sim_shl (ha : SimE T X W ea a) (hb : SimE T X W eb b) : SimE T X W (.BinOp ea .LShift eb pos) (m2 fShl a b) := sim_op op_shl (s_I2 (fun _ _ h => cpow_of h) fun _ _ _ _ => .int _) ha hb
theorem sim_lt (ha : SimE T X W ea a) (hb : SimE T X W eb b) : SimE T X W (.Compare ea [.Lt] [eb] pos) (m2 fLt a b) := sim_cmp op_lt (s_I0 fun _ _ _ _ => .bl _) (nomark _) ha hb
theorem sim_le (ha : SimE T X W ea a) (hb : SimE T X W eb b) : SimE T X W (.Compare ea [.LtE] [eb] pos) (m2 fLe a b) := sim_cmp op_le (s_I0 fun _ _ _ _ => .bl _) (nomark _) ha hb
theorem sim_gt (ha : SimE T X W ea a) (hb : SimE T X W eb b) : SimE T X W (.Compare ea [.Gt] [eb] pos) (m2 fGt a b) := sim_cmp op_gt (s_I0 fun _ _ _ _ => .bl _) (nomark _) ha hb
theorem sim_ge (ha : SimE T X W ea a) (hb : SimE T X W eb b) : SimE T X W (.Compare ea [.GtE] [eb] pos) (m2 fGe a b) := sim_cmp op_ge (s_I0 fun _ _ _ _ => .bl _) (nomark _) ha hb
end

/-! * of ints, of a tuple or a list and an int -/
def cMul (i j : Int) : Bool := (decide (-(2 ^ 64) < i) && decide (i < 2 ^ 64)) || (decide (-(2 ^ 64) < j) && decide (j < 2 ^ 64))
theorem cMul_of {i j : Int} (h : cMul i j = true) : CMul i j := by
  unfold cMul at h
  simp only [Bool.or_eq_true, Bool.and_eq_true, decide_eq_true_eq] at h
  exact h
def fMulI := fI2 cMul fun i j => .int (i * j)
section
variable {X : Cx} {W : WX} {ea eb : Expr} {a b : ME} {pos : Pos}
theorem sim_mulI (ha : SimE T X W ea a) (hb : SimE T X W eb b) : SimE T X W (.BinOp ea .Mult eb pos) (m2 fMulI a b) := sim_op op_mul (s_I2 (fun _ _ h => cMul_of h) fun _ _ _ _ => .int _) ha hb
end
def fUSub (v : Vl) (h : Hs) : Rs Vl := match v with
  | .p (.int i) => pI (-i) h
  | _ => none
theorem s_neg : Op1 T K fUSub (rU fun i => .int (-i)) := by
  intro M H h v x Er Q hr rx p
  unfold fUSub at p
  split at p
  · cases rx with | p rx => cases rx; exact ⟨_, rfl, p.ret .refl hr (.p (.int _))⟩
  · exact p.elim
theorem sim_neg {X : Cx} {W : WX} {ea : Expr} {a : ME} {pos : Pos} (ha : SimE T X W ea a) : SimE T X W (.UnaryOp .USub ea pos) (m1 fUSub a) := sim_un un_neg s_neg ha

/-! == and != of data -/
def fEqD (neg : Bool) (v w : Vl) (h : Hs) : Rs Vl := match pyV v h, pyV w h with
  | some d, some e => if SeqAt.shaped d = true ∧ SeqAt.shaped e = true then pB (if neg then !PyData.eqv d e else PyData.eqv d e) h else none
  | _, _ => none
theorem s_eq : Op2 T K (fEqD false) (rEqD K) := by
  intro M H h v w x y Er Q hr rx ry p
  unfold fEqD at p
  split at p
  · rename_i d e q1 q2
    split at p
    · rename_i hs
      exact ⟨d, e, rx.dp hr q1, ry.dp hr q2, hs.1, hs.2, p.ret .refl hr (.p (.bl _))⟩
    · exact p.elim
  · exact p.elim
theorem s_ne : Op2 T K (fEqD true) (rNeD K) := by
  intro M H h v w x y Er Q hr rx ry p
  unfold fEqD at p
  split at p
  · rename_i d e q1 q2
    split at p
    · rename_i hs
      exact ⟨d, e, rx.dp hr q1, ry.dp hr q2, hs.1, hs.2, p.ret .refl hr (.p (.bl _))⟩
    · exact p.elim
  · exact p.elim
section
variable {X : Cx} {W : WX} {ea eb : Expr} {a b : ME} {pos : Pos} {k : Nat}
theorem sim_eq (hr : Room k X.A) (ha : SimE T X W ea a) (hb : SimE T X W eb b) : SimE T X W (.Compare ea [.Eq] [eb] pos) (m2 (fEqD false) a b) := sim_cmp (op_eqD hr.units) s_eq (nomark _) ha hb
theorem sim_ne (hr : Room k X.A) (ha : SimE T X W ea a) (hb : SimE T X W eb b) : SimE T X W (.Compare ea [.NotEq] [eb] pos) (m2 (fEqD true) a b) := sim_cmp (op_neD hr.units) s_ne (nomark _) ha hb
end
/-! is None -/
def isNon (v : Vl) : Bool := match v with
  | .p .non => true
  | _ => false
def fIsN (neg : Bool) (v : Vl) (h : Hs) : Rs Vl := pB (if neg then !isNon v else isNon v) h
theorem RV.non_iff {M : Trk} {H : Hp} {v : Vl} {x : V} (r : RV T K M H v x) : decide (x = .non) = isNon v := by
  cases r with
  | p r => cases r <;> rfl
  | ref _ => rfl
section
variable {X : Cx} {W : WX} {ea : Expr} {a : ME} {pos pos' : Pos} {j : Nat}
theorem sim_isN (ha : SimE T X W ea a) : SimE T X W (.Compare ea [.Is] [.Constant .none j pos'] pos) (m1 (fIsN false) a) := by
  refine PE.weak (pe_cmp (pc_isN ha)) fun σ H Q ⟨S, M, h, sr, hr, p⟩ => tr_then sr hr p fun v h1 M1 H1 x e1 sr1 hr1 r1 p1 => ?_
  rw [r1.non_iff]
  exact p1.ret .refl hr1 (.p (.bl _))
theorem sim_notN (ha : SimE T X W ea a) : SimE T X W (.Compare ea [.IsNot] [.Constant .none j pos'] pos) (m1 (fIsN true) a) := by
  refine PE.weak (pe_cmp (pc_notN ha)) fun σ H Q ⟨S, M, h, sr, hr, p⟩ => tr_then sr hr p fun v h1 M1 H1 x e1 sr1 hr1 r1 p1 => ?_
  rw [r1.non_iff]
  exact p1.ret .refl hr1 (.p (.bl _))
end
end
end EV
end T1
section T2
set_option Elab.async false
set_option linter.all false
set_option maxRecDepth 100000
namespace EV
open PySem PySem.Spec PyProof.Rows L2

section
variable {T : Tb} {X : Cx} {W : WX}
/-! ### tests -/
def bT (v : Vl) (h : Hs) : Rs Bool := match v with
  | .p (.bl b) => ret b h
  | _ => none
def mT (m : ME) : MT := fun S h => bnd (m S h) bT
theorem tr_bT {m : ME} {σ : L2.St} {H : Hp} {Q : Bool → Hp → Prop} (h : trT T X.K W (mT m) σ H Q) : tr T X.K W m σ H (fun x H1 => ∃ c, x = .bl c ∧ Q c H1) := by
  obtain ⟨S, M, h, sr, hr, p⟩ := h
  refine ⟨S, M, h, sr, hr, p.bnd fun v h1 M1 H1 x e1 hr1 r1 p1 => ?_⟩
  unfold bT at p1
  split at p1
  · cases r1 with
    | p r =>
      cases r
      exact ⟨_, rfl, p1.ret .refl hr1 rfl⟩
  · exact p1.elim
/-- a value as a test -/
theorem sim_tV {e : Expr} {m : ME} (h : SimE T X W e m) (he : ∀ whole, isTrue e X.env whole = (do let v ← whole; standAt e.pos; holding [v] (truthy v)) := by intro _; rfl) : SimT T X W e (mT m) :=
  PT.weak (pt_val h he) fun _ _ _ q => tr_bT q
/-- a comparison as a test -/
theorem simT_cmp {op : CmpOp} {f : Vl → Vl → Hs → Rs Vl} {r : R2} {ea eb : Expr} {a b : ME} {pos : Pos} (ho : OpR X (compareOp op) r) (hf : Op2 T X.K f r) (hm : behindInMarks op eb = false) (ha : SimE T X W ea a) (hb : SimE T X W eb b) : SimT T X W (.Compare ea [op] [eb] pos) (mT (m2 f a b)) :=
  PT.weak (pt_cmpR ho ha hb hm) fun _ _ _ h => tr_op hf (tr_bT h)
section
variable {ea eb : Expr} {a b : ME} {pos pos' : Pos} {k j : Nat}
theorem simT_lt (ha : SimE T X W ea a) (hb : SimE T X W eb b) : SimT T X W (.Compare ea [.Lt] [eb] pos) (mT (m2 fLt a b)) := simT_cmp op_lt (s_I0 fun _ _ _ _ => .bl _) (nomark _) ha hb
theorem simT_le (ha : SimE T X W ea a) (hb : SimE T X W eb b) : SimT T X W (.Compare ea [.LtE] [eb] pos) (mT (m2 fLe a b)) := simT_cmp op_le (s_I0 fun _ _ _ _ => .bl _) (nomark _) ha hb
theorem simT_gt (ha : SimE T X W ea a) (hb : SimE T X W eb b) : SimT T X W (.Compare ea [.Gt] [eb] pos) (mT (m2 fGt a b)) := simT_cmp op_gt (s_I0 fun _ _ _ _ => .bl _) (nomark _) ha hb
theorem simT_ge (ha : SimE T X W ea a) (hb : SimE T X W eb b) : SimT T X W (.Compare ea [.GtE] [eb] pos) (mT (m2 fGe a b)) := simT_cmp op_ge (s_I0 fun _ _ _ _ => .bl _) (nomark _) ha hb
theorem simT_eq (hr : Room k X.A) (ha : SimE T X W ea a) (hb : SimE T X W eb b) : SimT T X W (.Compare ea [.Eq] [eb] pos) (mT (m2 (fEqD false) a b)) := simT_cmp (op_eqD hr.units) s_eq (nomark _) ha hb
theorem simT_ne (hr : Room k X.A) (ha : SimE T X W ea a) (hb : SimE T X W eb b) : SimT T X W (.Compare ea [.NotEq] [eb] pos) (mT (m2 (fEqD true) a b)) := simT_cmp (op_neD hr.units) s_ne (nomark _) ha hb
theorem simT_isN (ha : SimE T X W ea a) : SimT T X W (.Compare ea [.Is] [.Constant .none j pos'] pos) (mT (m1 (fIsN false) a)) := by
  refine PT.weak (pt_cmp (pc_isN ha)) fun σ H Q h => ?_
  obtain ⟨S, M, h, sr, hr, p⟩ := tr_bT h
  refine tr_then sr hr p fun v h1 M1 H1 x e1 sr1 hr1 r1 p1 => ?_
  rw [r1.non_iff]
  exact p1.ret .refl hr1 (.p (.bl _))
theorem simT_notN (ha : SimE T X W ea a) : SimT T X W (.Compare ea [.IsNot] [.Constant .none j pos'] pos) (mT (m1 (fIsN true) a)) := by
  refine PT.weak (pt_cmp (pc_notN ha)) fun σ H Q h => ?_
  obtain ⟨S, M, h, sr, hr, p⟩ := tr_bT h
  refine tr_then sr hr p fun v h1 M1 H1 x e1 sr1 hr1 r1 p1 => ?_
  rw [r1.non_iff]
  exact p1.ret .refl hr1 (.p (.bl _))
end
theorem trT_then {m : MT} {k : Bool → Hs → Rs Bool} {S : Sl} {M : Trk} {h : Hs} {σ : L2.St} {H : Hp} {Q G : Bool → Hp → Prop} (sr : SR T X.K M H S σ) (hr : HR T X.K M H h)
    (p : post T X.K Req M H (erAt T W σ) Q (bnd (m S h) k))
    (f : ∀ v h1 M1 H1, Ext M H M1 H1 → SR T X.K M1 H1 S σ → HR T X.K M1 H1 h1 → post T X.K Req M1 H1 (erAt T W σ) Q (k v h1) → G v H1) : trT T X.K W m σ H G :=
  ⟨S, M, h, sr, hr, p.bnd fun v h1 M1 H1 x e hr1 r q => by
    cases (r : v = x)
    exact f v h1 M1 H1 e (sr.ext e) hr1 q⟩
theorem trT_thenV {β γ : Type} {R : Trk → Hp → β → γ → Prop} {m : MT} {k : Bool → Hs → Rs β} {S : Sl} {M : Trk} {h : Hs} {σ : L2.St} {H : Hp} {Q : γ → Hp → Prop} {G : Bool → Hp → Prop} (sr : SR T X.K M H S σ) (hr : HR T X.K M H h)
    (p : post T X.K R M H (erAt T W σ) Q (bnd (m S h) k))
    (f : ∀ v h1 M1 H1, Ext M H M1 H1 → SR T X.K M1 H1 S σ → HR T X.K M1 H1 h1 → post T X.K R M1 H1 (erAt T W σ) Q (k v h1) → G v H1) : trT T X.K W m σ H G :=
  ⟨S, M, h, sr, hr, p.bnd fun v h1 M1 H1 x e hr1 r q => by
    cases (r : v = x)
    exact f v h1 M1 H1 e (sr.ext e) hr1 q⟩
def mNotT (t : MT) : MT := fun S h => bnd (t S h) fun b h1 => ret (!b) h1
theorem simT_not {e : Expr} {t : MT} {pos : Pos} (h : SimT T X W e t) : SimT T X W (.UnaryOp .Not e pos) (mNotT t) :=
  PT.weak (pt_not h) fun σ H Q ⟨S, M, h, sr, hr, p⟩ => trT_then sr hr p fun v h1 M1 H1 e1 sr1 hr1 p1 => p1.ret .refl hr1 rfl
abbrev SimW (T : Tb) (X : Cx) (W : WX) (e : Expr) (t : MT) : Prop := PW X e (trT T X.K W t)
theorem PW.weak {e : Expr} {t t' : TT} (h : PW X e t) (f : ∀ σ H Q, t' σ H Q → t σ H Q) : PW X e t' := ⟨fun wh pins s σ H Q I q => h.run wh pins s σ H Q I (f σ H Q q)⟩
def mAndT (a b : MT) : MT := fun S h => bnd (a S h) fun c h1 => if c = true then b S h1 else ret false h1
def mOrT (a b : MT) : MT := fun S h => bnd (a S h) fun c h1 => if c = true then ret true h1 else b S h1
section
variable {a b : Expr} {rest : List Expr} {ta tb : MT} {pos : Pos}
theorem simW_and1 (ha : SimT T X W a ta) : SimW T X W (.BoolOp .And [a] pos) ta := pw_and1 ha
theorem simW_or1 (ha : SimT T X W a ta) : SimW T X W (.BoolOp .Or [a] pos) ta := pw_or1 ha
theorem simW_and (ha : SimT T X W a ta) (hb : SimW T X W (.BoolOp .And (b :: rest) pos) tb) : SimW T X W (.BoolOp .And (a :: b :: rest) pos) (mAndT ta tb) := by
  refine PW.weak (pw_and ha hb) fun σ H Q ⟨S, M, h, sr, hr, p⟩ => trT_then sr hr p fun v h1 M1 H1 e1 sr1 hr1 p1 => ?_
  cases v with
  | true => exact ⟨S, M1, h1, sr1, hr1, p1⟩
  | false => exact p1.ret .refl hr1 rfl
theorem simW_or (ha : SimT T X W a ta) (hb : SimW T X W (.BoolOp .Or (b :: rest) pos) tb) : SimW T X W (.BoolOp .Or (a :: b :: rest) pos) (mOrT ta tb) := by
  refine PW.weak (pw_or ha hb) fun σ H Q ⟨S, M, h, sr, hr, p⟩ => trT_then sr hr p fun v h1 M1 H1 e1 sr1 hr1 p1 => ?_
  cases v with
  | true => exact p1.ret .refl hr1 rfl
  | false => exact ⟨S, M1, h1, sr1, hr1, p1⟩
theorem simT_W {e : Expr} {t : MT} (h : SimW T X W e t) : SimT T X W e t := h.pt
/-! as values -/
def mAnd (a b : ME) : ME := fun S h => bnd (a S h) fun v h1 => match v with
  | .p (.bl c) => if c = true then b S h1 else ret (.p (.bl false)) h1
  | _ => none
def mOr (a b : ME) : ME := fun S h => bnd (a S h) fun v h1 => match v with
  | .p (.bl c) => if c = true then ret (.p (.bl true)) h1 else b S h1
  | _ => none
def mNot (a : ME) : ME := fun S h => bnd (a S h) fun v h1 => match v with
  | .p (.bl c) => ret (.p (.bl (!c))) h1
  | _ => none
variable {ma mb : ME}
theorem sim_one {op : BoolOp} (ha : SimE T X W a ma) : SimE T X W (.BoolOp op [a] pos) ma := pe_one ha
theorem sim_and (ha : SimE T X W a ma) (hb : SimE T X W (.BoolOp .And (b :: rest) pos) mb) : SimE T X W (.BoolOp .And (a :: b :: rest) pos) (mAnd ma mb) := by
  refine PE.weak (pe_and ha hb) fun σ H Q ⟨S, M, h, sr, hr, p⟩ => tr_then sr hr p fun v h1 M1 H1 x e1 sr1 hr1 r1 p1 => ?_
  split at p1
  · cases r1 with
    | p r =>
      cases r
      refine ⟨_, rfl, ?_⟩
      rename_i c
      cases c with
      | true => exact ⟨S, M1, h1, sr1, hr1, p1⟩
      | false => exact p1.ret .refl hr1 (.p (.bl _))
  · exact p1.elim
theorem sim_or (ha : SimE T X W a ma) (hb : SimE T X W (.BoolOp .Or (b :: rest) pos) mb) : SimE T X W (.BoolOp .Or (a :: b :: rest) pos) (mOr ma mb) := by
  refine PE.weak (pe_or ha hb) fun σ H Q ⟨S, M, h, sr, hr, p⟩ => tr_then sr hr p fun v h1 M1 H1 x e1 sr1 hr1 r1 p1 => ?_
  split at p1
  · cases r1 with
    | p r =>
      cases r
      refine ⟨_, rfl, ?_⟩
      rename_i c
      cases c with
      | true => exact p1.ret .refl hr1 (.p (.bl _))
      | false => exact ⟨S, M1, h1, sr1, hr1, p1⟩
  · exact p1.elim
theorem sim_not (ha : SimE T X W a ma) : SimE T X W (.UnaryOp .Not a pos) (mNot ma) := by
  refine PE.weak (pe_not ha) fun σ H Q ⟨S, M, h, sr, hr, p⟩ => tr_then sr hr p fun v h1 M1 H1 x e1 sr1 hr1 r1 p1 => ?_
  split at p1
  · cases r1 with
    | p r =>
      cases r
      exact ⟨_, rfl, p1.ret .refl hr1 (.p (.bl _))⟩
  · exact p1.elim
def mIf (c : MT) (a b : ME) : ME := fun S h => bnd (c S h) fun k h1 => if k = true then a S h1 else b S h1
theorem sim_if {c : Expr} {tc : MT} (hc : SimT T X W c tc) (ha : SimE T X W a ma) (hb : SimE T X W b mb) : SimE T X W (.IfExp c a b pos) (mIf tc ma mb) := by
  refine PE.weak (pe_ifExp hc ha hb) fun σ H Q ⟨S, M, h, sr, hr, p⟩ => trT_thenV sr hr p fun v h1 M1 H1 e1 sr1 hr1 p1 => ?_
  cases v with
  | true => exact ⟨S, M1, h1, sr1, hr1, p1⟩
  | false => exact ⟨S, M1, h1, sr1, hr1, p1⟩
end

/-! ### displays -/
theorem trA_then {β γ : Type} {R : Trk → Hp → β → γ → Prop} {m : MA} {k : List Vl → Hs → Rs β} {S : Sl} {M : Trk} {h : Hs} {σ : L2.St} {H : Hp} {Q : γ → Hp → Prop} {G : List V → Hp → Prop} (sr : SR T X.K M H S σ) (hr : HR T X.K M H h)
    (p : post T X.K R M H (erAt T W σ) Q (bnd (m S h) k))
    (f : ∀ vs h1 M1 H1 xs, Ext M H M1 H1 → SR T X.K M1 H1 S σ → HR T X.K M1 H1 h1 → RVA T X.K M1 H1 vs xs → post T X.K R M1 H1 (erAt T W σ) Q (k vs h1) → G xs H1) : trA T X.K W m σ H G :=
  ⟨S, M, h, sr, hr, p.bnd fun v h1 M1 H1 x e hr1 r q => f v h1 M1 H1 x e (sr.ext e) hr1 r q⟩
/-- all are data -/
def pures : List Vl → Option (List P)
  | [] => some []
  | .p d :: vs => match pures vs with
    | some ds => some (d :: ds)
    | none => none
  | .ref _ :: _ => none
theorem RVA.pures {K : PySem.W.Frag} {M : Trk} {H : Hp} : ∀ {vs : List Vl} {xs : List V} {ds : List P}, RVA T K M H vs xs → EV.pures vs = some ds → RpA T K M H ds xs
  | _, _, _, .nil, e => by simp only [EV.pures, Option.some.injEq] at e; subst e; exact .nil
  | _, _, _, .cons (.p hd) (ds := vs) r, e => by
    simp only [EV.pures] at e
    cases q : EV.pures vs with
    | none => rw [q] at e; cases e
    | some l => rw [q] at e; cases e; exact .cons hd (RVA.pures r q)
  | _, _, _, .cons (.ref _) r, e => by simp [EV.pures] at e
def kTupD (vs : List Vl) (h : Hs) : Rs Vl := match pures vs with
  | some ds => if ds.length ≤ 16777216 then ret (.p (.tup ds)) h else none
  | none => none
def kLstD (vs : List Vl) (h : Hs) : Rs Vl := match pures vs with
  | some ds => if ds.length ≤ 16777216 then ret (.p (.lst ds)) h else none
  | none => none
/-- a list that will be changed: tracked -/
def kLstT (vs : List Vl) (h : Hs) : Rs Vl := match pures vs with
  | some ds => if ds.length ≤ 16777216 then ret (.ref h.length) (h ++ [.lst ds]) else none
  | none => none
def mAll (k : List Vl → Hs → Rs Vl) (a : MA) : ME := fun S h => bnd (a S h) k
section
variable {es : List Expr} {a : MA} {pos : Pos} {x1 : Nat}
theorem sim_tup (ha : SimA T X W es a) : SimE T X W (.Tuple es x1 pos) (mAll kTupD a) := by
  refine PE.weak (pe_tup ha) fun σ H Q ⟨S, M, h, sr, hr, p⟩ => trA_then sr hr p fun vs h1 M1 H1 xs e1 sr1 hr1 r1 p1 => ?_
  unfold kTupD at p1
  split at p1
  · rename_i ds q
    have r := r1.pures q
    split at p1
    · rename_i hz
      exact ⟨by rw [← r.length]; exact le_line hz, fun q hq => p1.ret (.fresh hq) (hr1.fresh hq) (new_tup hr1 hq r)⟩
    · exact p1.elim
  · exact p1.elim
theorem sim_lst (ha : SimA T X W es a) : SimE T X W (.List es pos) (mAll kLstD a) := by
  refine PE.weak (pe_lst ha) fun σ H Q ⟨S, M, h, sr, hr, p⟩ => trA_then sr hr p fun vs h1 M1 H1 xs e1 sr1 hr1 r1 p1 => ?_
  unfold kLstD at p1
  split at p1
  · rename_i ds q
    have r := r1.pures q
    split at p1
    · rename_i hz
      exact ⟨by rw [← r.length]; exact le_line hz, fun q hq => p1.ret (.fresh hq) (hr1.fresh hq) (new_lst hr1 hq r)⟩
    · exact p1.elim
  · exact p1.elim
theorem HR.newest {K : PySem.W.Frag} {M : Trk} {H : Hp} {h : Hs} (hr : HR T K M H h) (q : Addr) : (M.add q).tk[h.length]? = some q := by
  rw [List.getElem?_append_right (by rw [hr.len]; exact Nat.le_refl _), hr.len, Nat.sub_self]; rfl
theorem sim_lstT (ha : SimA T X W es a) : SimE T X W (.List es pos) (mAll kLstT a) := by
  refine PE.weak (pe_lst ha) fun σ H Q ⟨S, M, h, sr, hr, p⟩ => trA_then sr hr p fun vs h1 M1 H1 xs e1 sr1 hr1 r1 p1 => ?_
  unfold kLstT at p1
  split at p1
  · rename_i ds q
    have r := r1.pures q
    split at p1
    · rename_i hz
      exact ⟨by rw [← r.length]; exact le_line hz, fun q hq => p1.ret (.track hq) (trk_lst hr1 hq r) (.ref (hr1.newest q))⟩
    · exact p1.elim
  · exact p1.elim
/-- *e among the parts -/
def seqP (v : Vl) : Option (List P) := match v with
  | .p (.tup ds) => some ds
  | .p (.lst ds) => some ds
  | .p (.scr ds) => some ds
  | _ => none
def aStar (e : ME) (r : MA) : MA := fun S h => bnd (e S h) fun v h1 => match seqP v with
  | some ds => bnd (r S h1) fun vs h2 => ret (ds.map Vl.p ++ vs) h2
  | none => none
theorem RpA.vls {K : PySem.W.Frag} {M : Trk} {H : Hp} : ∀ {ds : List P} {xs : List V}, RpA T K M H ds xs → RVA T K M H (ds.map Vl.p) xs
  | _, _, .nil => .nil
  | _, _, .cons h r => .cons (.p h) (RpA.vls r)
theorem RVA.append {K : PySem.W.Frag} {M : Trk} {H : Hp} : ∀ {ds es : List Vl} {vs ws : List V}, RVA T K M H ds vs → RVA T K M H es ws → RVA T K M H (ds ++ es) (vs ++ ws)
  | _, _, _, _, .nil, s => s
  | _, _, _, _, .cons h r, s => .cons h (RVA.append r s)
theorem RV.seqP {K : PySem.W.Frag} {M : Trk} {H : Hp} {v : Vl} {x : V} {ds : List P} (r : RV T K M H v x) (e : EV.seqP v = some ds) : ∃ a xs, x = .ref a ∧ (SqT K H a xs ∨ SqL K H a xs) ∧ RpA T K M H ds xs := by
  unfold EV.seqP at e
  split at e
  · cases e
    cases r with | p r => cases r with | tup h r => exact ⟨_, _, rfl, .inl h.sqT, r⟩
  · cases e
    cases r with | p r => cases r with | lst h _ r => exact ⟨_, _, rfl, .inr (.of h), r⟩
  · cases e
    cases r with | p r => cases r with | scr h r => exact ⟨_, _, rfl, .inr h.sqL, r⟩
  · cases e
theorem sim_star {e : Expr} {m : ME} {r : MA} {p : Pos} (he : SimE T X W e m) (hr : SimA T X W es r) (hs : starEach (.Starred e p :: es) X.env = (true, eval e X.env) :: starEach es X.env := by rfl) : SimA T X W (.Starred e p :: es) (aStar m r) := by
  refine PA.weak (StX.pa_star he hr hs) fun σ H Q ⟨S, M, h, sr, hr, p⟩ => ?_
  refine ⟨S, M, h, sr, hr, p.bnd fun v h1 M1 H1 x e1 hr1 r1 p1 => ?_⟩
  split at p1
  · rename_i ds q
    obtain ⟨a, xs, rfl, hs, ra⟩ := r1.seqP q
    refine ⟨a, xs, rfl, hs, S, M1, h1, sr.ext e1, hr1, p1.bnd fun vs h2 M2 H2 ys e2 hr2 r2 p2 => ?_⟩
    exact p2.ret .refl hr2 (RVA.append (RpA.vls (ra.ext e2)) r2)
  · exact p1.elim
end
end
end EV
end T2
section T3
set_option Elab.async false
set_option linter.all false
set_option maxRecDepth 100000
namespace EV
open PySem PySem.Spec PyProof.Rows L2

section
variable {T : Tb} {X : Cx} {W : WX}
/-! ### what stands in a sequence -/
def seqV (v : Vl) (h : Hs) : Option (List P) := match v with
  | .p d => seqP (.p d)
  | .ref n => match h[n]? with
    | some (.lst ds) => some ds
    | _ => none
theorem RV.seqV {K : PySem.W.Frag} {M : Trk} {H : Hp} {h : Hs} {v : Vl} {x : V} {ds : List P} (hr : HR T K M H h) (r : RV T K M H v x) (e : EV.seqV v h = some ds) : ∃ a xs, x = .ref a ∧ (SqL K H a xs ∨ SqT K H a xs) ∧ RpA T K M H ds xs := by
  unfold EV.seqV at e
  split at e
  · obtain ⟨a, xs, e1, e2, e3⟩ := r.seqP e
    exact ⟨a, xs, e1, e2.symm, e3⟩
  · cases r with
    | ref q =>
      obtain ⟨p, hp, c⟩ := hr.got q
      rw [hp] at e
      cases c with
      | lst z r => cases e; exact ⟨_, _, rfl, .inl (.of z), r⟩
      | ins _ _ _ => cases e
/-! ### xs[i] -/
def fIdx (v w : Vl) (h : Hs) : Rs Vl := match seqV v h, w with
  | some ds, .p (.int i) => match ixN ds.length i with
    | some j => match ds[j]? with
      | some d => ret (.p d) h
      | none => none
    | none => none
  | _, _ => none
abbrev rIx2 (K : PySem.W.Frag) : R2 := fun x y H Q => rIxL K x y H Q ∨ rIxT K x y H Q
theorem s_idx : Op2 T X.K fIdx (rIx2 X.K) := by
  intro M H h v w x y Er Q hr rx ry p
  unfold fIdx at p
  split at p
  · rename_i ds i q
    obtain ⟨a, xs, rfl, hs, ra⟩ := rx.seqV hr q
    split at p
    · rename_i j hj
      split at p
      · rename_i d hd
        obtain ⟨u, hu, ru⟩ := ra.get hd
        cases ry with | p ry =>
        cases ry
        have hat : atI xs i = some u := by
          unfold atI
          rw [← ra.length, hj]
          exact hu
        rcases hs with hs | hs
        · exact .inl ⟨a, xs, i, u, rfl, rfl, hs, hat, p.ret .refl hr (.p ru)⟩
        · exact .inr ⟨a, xs, i, u, rfl, rfl, hs, hat, p.ret .refl hr (.p ru)⟩
      · exact p.elim
    · exact p.elim
  · exact p.elim
theorem sim_idx {ea eb : Expr} {a b : ME} {pos : Pos} (ha : SimE T X W ea a) (hb : SimE T X W eb b) (hs : PlainIx eb := by exact fun _ _ => rfl) : SimE T X W (.Subscript ea eb pos) (m2 fIdx a b) :=
  PE.weak (pe_ix (ix_list.or ix_tup) ha hb hs) fun _ _ _ h => tr_op s_idx h

/-! ### slices -/
abbrev MO := Sl → Hs → Rs (Option Int)
def trO (T : Tb) (K : PySem.W.Frag) (W : WX) (m : MO) : TO := fun σ H Q => ∃ S M h, SR T K M H S σ ∧ HR T K M H h ∧ post T K Req M H (erAt T W σ) Q (m S h)
abbrev SimO (T : Tb) (X : Cx) (W : WX) (e : Option Expr) (m : MO) : Prop := PO X e (trO T X.K W m)
def oNone : MO := fun _ h => ret none h
def oSome (m : ME) : MO := fun S h => bnd (m S h) fun v h1 => match v with
  | .p (.int i) => ret (some i) h1
  | _ => none
theorem sim_oNone : SimO T X W none oNone := ⟨fun pins s σ H Q I ⟨_, _, _, _, hr, p⟩ => po_none.run pins s σ H Q I (p.ret .refl hr rfl)⟩
theorem sim_oSome {e : Expr} {m : ME} (h : SimE T X W e m) : SimO T X W (some e) (oSome m) := by
  refine ⟨fun pins s σ H Q I ⟨S, M, h', sr, hr, p⟩ => (po_some h).run pins s σ H Q I ?_⟩
  refine ⟨S, M, h', sr, hr, p.bnd fun v h1 M1 H1 x e1 hr1 r1 p1 => ?_⟩
  split at p1
  · cases r1 with | p r => cases r; exact ⟨_, rfl, p1.ret .refl hr1 rfl⟩
  · exact p1.elim
def cutP (ds : List P) (lo hi : Option Int) : List P := (ds.drop (HT.sIx ds.length 0 lo)).take (HT.sIx ds.length ds.length hi - HT.sIx ds.length 0 lo)
theorem RpA.cut {K : PySem.W.Frag} {M : Trk} {H : Hp} {ds : List P} {xs : List V} (r : RpA T K M H ds xs) (lo hi : Option Int) : RpA T K M H (cutP ds lo hi) (cutV xs lo hi) := by
  unfold cutP cutV
  rw [r.length]
  exact (r.drop _).take _
theorem cut_whole {ds : List P} {lo hi : Option Int} (h : HT.sIx ds.length 0 lo = 0 ∧ HT.sIx ds.length ds.length hi = ds.length) : cutP ds lo hi = ds := by
  unfold cutP
  rw [h.1, h.2]
  simp
def fCut (v : Vl) (lo hi : Option Int) (h : Hs) : Rs Vl := match v with
  | .p (.tup ds) => ret (.p (.tup (cutP ds lo hi))) h
  | .p (.lst ds) => ret (.p (.lst (cutP ds lo hi))) h
  | .p (.str x) => if x.length ≤ 16777216 then ret (.p (.str (cutS x lo hi))) h else none
  | .ref n => match h[n]? with
    | some (.lst ds) => ret (.p (.lst (cutP ds lo hi))) h
    | _ => none
  | _ => none
def mCut (m : ME) (lo hi : MO) : ME := fun S h => bnd (m S h) fun v h1 => bnd (lo S h1) fun l h2 => bnd (hi S h2) fun u h3 => fCut v l u h3
abbrev rSl3 (K : PySem.W.Frag) : V → Option Int → Option Int → Hp → VK → Prop := fun x lo hi H Q => rSlA K x lo hi H Q ∨ (rSlL K x lo hi H Q ∨ rSlS x lo hi H Q)
theorem s_cut {M : Trk} {H : Hp} {h : Hs} {v : Vl} {x : V} {lo hi : Option Int} {Er : Nat → Hp → Prop} {Q : VK} (hr : HR T X.K M H h) (rx : RV T X.K M H v x) (p : post T X.K (RV T X.K) M H Er Q (fCut v lo hi h)) : rSl3 X.K x lo hi H Q := by
  unfold fCut at p
  split at p
  · cases rx with | p rx => cases rx with | tup tx ra =>
    refine .inl ⟨_, _, rfl, tx.sqT, fun e => ?_, fun e q hq => ?_⟩
    · rw [cut_whole (by rw [ra.length]; exact e)] at p
      exact p.ret .refl hr (.p (.tup tx ra))
    · exact p.ret (.fresh hq) (hr.fresh hq) (new_tup hr hq (ra.cut lo hi))
  · cases rx with | p rx => cases rx with | lst tx nx ra =>
    exact .inr (.inl ⟨_, _, rfl, .of tx, fun q hq => p.ret (.fresh hq) (hr.fresh hq) (new_lst hr hq (ra.cut lo hi))⟩)
  · split at p
    · rename_i hz
      cases rx with
      | p rx =>
        cases rx
        exact .inr (.inr ⟨_, rfl, le_line hz, p.ret .refl hr (.p (.str _))⟩)
    · exact p.elim
  · cases rx with
    | ref q =>
      obtain ⟨d, hp, c⟩ := hr.got q
      rw [hp] at p
      cases c with
      | lst z ra => exact .inr (.inl ⟨_, _, rfl, .of z, fun q hq => p.ret (.fresh hq) (hr.fresh hq) (new_lst hr hq (ra.cut lo hi))⟩)
      | ins _ _ _ => exact p.elim
  · exact p.elim
theorem sim_cut {e : Expr} {lo hi : Option Expr} {m : ME} {ml mh : MO} {p2 pos : Pos} (he : SimE T X W e m) (hl : SimO T X W lo ml) (hh : SimO T X W hi mh) : SimE T X W (.Subscript e (.Slice lo hi none p2) pos) (mCut m ml mh) := by
  refine PE.weak (pe_slice (sl_tupA.or (sl_list.or sl_str)) he hl hh) fun σ H Q ⟨S, M, h, sr, hr, p⟩ => ?_
  refine tr_then sr hr p fun v h1 M1 H1 x e1 sr1 hr1 r1 p1 => ?_
  refine ⟨S, M1, h1, sr1, hr1, p1.bnd fun l h2 M2 H2 l' e2 hr2 r2 p2 => ?_⟩
  cases (r2 : l = l')
  refine ⟨S, M2, h2, sr1.ext e2, hr2, p2.bnd fun u h3 M3 H3 u' e3 hr3 r3 p3 => ?_⟩
  cases (r3 : u = u')
  exact s_cut hr3 ((r1.ext e2).ext e3) p3

/-! ### in, not in -/
theorem room65 {k : Nat} (hr : Room k X.A) : X.A.units + 65 < cLine := by
  have := hr.un
  omega
def rInTp (K : PySem.W.Frag) (neg : Bool) : R2 := fun x y H Q => ∃ d ds, Dp K H x d ∧ Dp K H y (.tuple ds) ∧ SeqAt.shaped d = true ∧ SeqAt.shaped (.tuple ds) = true ∧ Q (.bl (if neg then !ds.any (fun z => PyData.eqv z d) else ds.any fun z => PyData.eqv z d)) H
theorem op_inTp (hu : X.A.units + 65 < cLine) : OpR X (compareOp .In) (rInTp X.K false) := by
  rintro pins s σ H x y v u Q I rx ry ⟨d, ds, hd, hy, s1, s2, q⟩
  obtain ⟨as, r1⟩ := Dp.reads I d x v hd rx
  obtain ⟨bs, r2⟩ := Dp.reads I (.tuple ds) y u hy ry
  exact SeqAt.in_tuple_reads r2 r1 (SeqAt.canLay_of_shaped s2) (SeqAt.canLay_of_shaped s1) (room_in_shaped s1 hu) ⟨.bl _, H, I, rfl, q⟩
theorem op_notInTp (hu : X.A.units + 65 < cLine) : OpR X (compareOp .NotIn) (rInTp X.K true) := by
  rintro pins s σ H x y v u Q I rx ry ⟨d, ds, hd, hy, s1, s2, q⟩
  obtain ⟨as, r1⟩ := Dp.reads I d x v hd rx
  obtain ⟨bs, r2⟩ := Dp.reads I (.tuple ds) y u hy ry
  exact SeqAt.notIn_tuple_reads r2 r1 (SeqAt.canLay_of_shaped s2) (SeqAt.canLay_of_shaped s1) (room_in_shaped s1 hu) ⟨.bl _, H, I, rfl, q⟩
def fIn (neg : Bool) (v w : Vl) (h : Hs) : Rs Vl := match pyV v h, pyV w h with
  | some d, some (.list ds) => if SeqAt.shaped d = true ∧ SeqAt.shaped (.list ds) = true then pB (if neg then !ds.any (fun z => PyData.eqv z d) else ds.any fun z => PyData.eqv z d) h else none
  | some d, some (.tuple ds) => if SeqAt.shaped d = true ∧ SeqAt.shaped (.tuple ds) = true then pB (if neg then !ds.any (fun z => PyData.eqv z d) else ds.any fun z => PyData.eqv z d) h else none
  | _, _ => none
theorem s_in : Op2 T X.K (fIn false) (fun x y H Q => rInD X.K x y H Q ∨ rInTp X.K false x y H Q) := by
  intro M H h v w x y Er Q hr rx ry p
  unfold fIn at p
  split at p
  · rename_i d ds q1 q2
    split at p
    · rename_i hs
      exact .inl ⟨d, ds, rx.dp hr q1, ry.dp hr q2, hs.1, hs.2, p.ret .refl hr (.p (.bl _))⟩
    · exact p.elim
  · rename_i d ds q1 q2
    split at p
    · rename_i hs
      exact .inr ⟨d, ds, rx.dp hr q1, ry.dp hr q2, hs.1, hs.2, p.ret .refl hr (.p (.bl _))⟩
    · exact p.elim
  · exact p.elim
theorem s_notIn : Op2 T X.K (fIn true) (fun x y H Q => rNotInD X.K x y H Q ∨ rInTp X.K true x y H Q) := by
  intro M H h v w x y Er Q hr rx ry p
  unfold fIn at p
  split at p
  · rename_i d ds q1 q2
    split at p
    · rename_i hs
      exact .inl ⟨d, ds, rx.dp hr q1, ry.dp hr q2, hs.1, hs.2, p.ret .refl hr (.p (.bl _))⟩
    · exact p.elim
  · rename_i d ds q1 q2
    split at p
    · rename_i hs
      exact .inr ⟨d, ds, rx.dp hr q1, ry.dp hr q2, hs.1, hs.2, p.ret .refl hr (.p (.bl _))⟩
    · exact p.elim
  · exact p.elim
section
variable {ea eb : Expr} {a b : ME} {pos : Pos} {k : Nat}
theorem sim_in (hr : Room k X.A) (ha : SimE T X W ea a) (hb : SimE T X W eb b) (hm : behindInMarks .In eb = false := by rfl) : SimE T X W (.Compare ea [.In] [eb] pos) (m2 (fIn false) a b) := sim_cmp ((op_inD (room65 hr)).or (op_inTp (room65 hr))) s_in hm ha hb
theorem sim_notIn (hr : Room k X.A) (ha : SimE T X W ea a) (hb : SimE T X W eb b) (hm : behindInMarks .NotIn eb = false := by rfl) : SimE T X W (.Compare ea [.NotIn] [eb] pos) (m2 (fIn true) a b) := sim_cmp ((op_notInD (room65 hr)).or (op_notInTp (room65 hr))) s_notIn hm ha hb
theorem simT_in (hr : Room k X.A) (ha : SimE T X W ea a) (hb : SimE T X W eb b) (hm : behindInMarks .In eb = false := by rfl) : SimT T X W (.Compare ea [.In] [eb] pos) (mT (m2 (fIn false) a b)) := simT_cmp ((op_inD (room65 hr)).or (op_inTp (room65 hr))) s_in hm ha hb
theorem simT_notIn (hr : Room k X.A) (ha : SimE T X W ea a) (hb : SimE T X W eb b) (hm : behindInMarks .NotIn eb = false := by rfl) : SimT T X W (.Compare ea [.NotIn] [eb] pos) (mT (m2 (fIn true) a b)) := simT_cmp ((op_notInD (room65 hr)).or (op_notInTp (room65 hr))) s_notIn hm ha hb
end

/-! ### calls of the text's own defs -/
abbrev FnsT := Nat → List Vl → Hs → Rs Vl
/-- what the i-th def promises -/
def spF (T : Tb) (K : PySem.W.Frag) (f : List Vl → Hs → Rs Vl) : Sp := fun vs H Q E => ∃ args M h, RVA T K M H args vs ∧ HR T K M H h ∧ post T K (RV T K) M H (fun c H' => E (.ref (T.exc c)) none H') Q (f args h)
/-- a def as a callee -/
structure Fn (T : Tb) (X : Cx) (k : Nat) (x : Str) (f : List Vl → Hs → Rs Vl) : Prop where
  ex : ∃ a, FnR X.prog X.w X.K X.mg X.base (L2.CX X.prog X.w) k a (spF T X.K f) ∧ PySem.W.keepIn X.K (.ref a) = true ∧ X.mg x = some (.ref a)
theorem run_own {k : Nat} {a : Addr} {f : List Vl → Hs → Rs Vl} (F : FnR X.prog X.w X.K X.mg X.base (L2.CX X.prog X.w) k a (spF T X.K f)) (tk : Takes X W) (hr : Room k X.A) {pins : List (Addr × Obj)} {σ : L2.St} {H : Hp} {s : Shared} {Q : VK} {us : List Value} {vs : List V} (I : Inv X pins σ H s) (r : Vals vs us)
    (h : spF T X.K f vs H Q (fun c d H' => W c d σ H')) : wpAny (model X.prog X.w) X.A (call (.ref a) us) (EP X pins σ Q) X.xe s := by
  refine wpAny_call (codeAny_mono (F X.A X.stack s H us vs Q _ hr I.env0 r h) fun r s' hq => ?_)
  cases r with
  | error e => exact tk e s' (XE.of_call I (fun _ _ _ h => h) hq)
  | ok fl =>
    cases fl with
    | ret u => exact I.after hq
    | next => exact False.elim hq
    | brk => exact False.elim hq
    | cont => exact False.elim hq
theorem trA_spF {f : List Vl → Hs → Rs Vl} {a : MA} {σ : L2.St} {H : Hp} {Q : VK} (h : tr T X.K W (mAll f a) σ H Q) : trA T X.K W a σ H (fun vs H1 => spF T X.K f vs H1 Q (fun c d H' => W c d σ H')) := by
  obtain ⟨S, M, h, sr, hr, p⟩ := h
  exact trA_then sr hr p fun vs h1 M1 H1 xs e1 sr1 hr1 r1 p1 => ⟨vs, M1, h1, r1, hr1, p1⟩
section
variable {x : Str} {p pos : Pos} {e : Expr} {es : List Expr} {a : MA} {k : Nat} {f : List Vl → Hs → Rs Vl}
theorem sim_call (F : Fn T X k x f) (tk : Takes X W) (hr : Room k X.A) (hg : Gl X x) (ha : SimA T X W (e :: es) a) (hd : (x == ("__debug__" : Str)) = false := by decide)
    (he : starEach (e :: es) X.env = (false, eval e X.env) :: starEach es X.env := by rfl) (hpl : (backTo pos (starEach es X.env)).any (·.1) = false := by rfl) : SimE T X W (.Call (.Name x p) (e :: es) [] pos) (mAll f a) := by
  obtain ⟨ad, F, kp, hm⟩ := F.ex
  refine ⟨fun pins s σ H Q I h => wpAny_Call_Name_kw (ld_glob I hg hm ?_ hd)⟩
  refine PySem.W.callWith_K (h₀ := X.base) I.ok.mod.kin kp (thn (ha.run pos pins s σ H _ I (trA_spF h)) fun us s1 ⟨vs, H1, I1, r, q⟩ => ⟨I1.kIn, ?_⟩) he hpl
  exact run_own F tk hr I1 r q
theorem sim_call0 (F : Fn T X k x f) (tk : Takes X W) (hr : Room k X.A) (hg : Gl X x) (hd : (x == ("__debug__" : Str)) = false := by decide) : SimE T X W (.Call (.Name x p) [] [] pos) (mAll f aNil) := by
  obtain ⟨ad, F, kp, hm⟩ := F.ex
  refine ⟨fun pins s σ H Q I h => wpAny_Call_Name_kw (ld_glob I hg hm ?_ hd)⟩
  refine PySem.W.callWith_K0 I.kIn kp ?_
  obtain ⟨S, M, h', sr, hr', pp⟩ := h
  exact run_own F tk hr I .nil ⟨[], M, h', .nil, hr', pp⟩
/-- of built-ins -/
theorem sim_callB {id : String} {r : List V → Hp → VK → Prop} (hc : CallR X (.builtin id) r) (hf : OpN T X.K f r) (hg : Gl X x) (hm : X.mg x = none) (hv : bootBuiltins x = some (.builtin id)) (ha : SimA T X W (e :: es) a) (hn : x ≠ "__name__" := by decide) (hdb : (x == ("__debug__" : Str)) = false := by decide)
    (he : starEach (e :: es) X.env = (false, eval e X.env) :: starEach es X.env := by rfl) (hpl : (backTo pos (starEach es X.env)).any (·.1) = false := by rfl) : SimE T X W (.Call (.Name x p) (e :: es) [] pos) (mAll f a) :=
  PE.weak (pe_callB hc hg hm hv ha hn hdb he hpl) fun σ H Q ⟨S, M, h, sr, hr, p⟩ => trA_then sr hr p fun vs h1 M1 H1 xs e1 sr1 hr1 r1 p1 => hf M1 H1 h1 vs xs _ Q hr1 r1 p1
theorem sim_callTy {id : String} {r : List V → Hp → VK → Prop} (hc : CallR X (.type id) r) (hf : OpN T X.K f r) (hg : Gl X x) (hm : X.mg x = none) (hv : bootBuiltins x = some (.type id)) (ha : SimA T X W (e :: es) a) (hn : x ≠ "__name__" := by decide) (hdb : (x == ("__debug__" : Str)) = false := by decide)
    (he : starEach (e :: es) X.env = (false, eval e X.env) :: starEach es X.env := by rfl) (hpl : (backTo pos (starEach es X.env)).any (·.1) = false := by rfl) : SimE T X W (.Call (.Name x p) (e :: es) [] pos) (mAll f a) :=
  PE.weak (pe_callTy hc hg hm hv ha hn hdb he hpl) fun σ H Q ⟨S, M, h, sr, hr, p⟩ => trA_then sr hr p fun vs h1 M1 H1 xs e1 sr1 hr1 r1 p1 => hf M1 H1 h1 vs xs _ Q hr1 r1 p1
end

/-! len, max, min, int, str, list, tuple -/
def kLen (vs : List Vl) (h : Hs) : Rs Vl := match vs with
  | [.p (.str x)] => if x.length ≤ 16777216 then pI x.length h else none
  | [v] => match seqV v h with
    | some ds => pI ds.length h
    | none => none
  | _ => none
abbrev rLen2 (K : PySem.W.Frag) : List V → Hp → VK → Prop := fun xs H Q => (∃ z, xs = [.str z] ∧ z.length ≤ sizeLine ∧ Q (.int z.length) H) ∨ (∃ p ys, xs = [.ref p] ∧ (SqL K H p ys ∨ SqT K H p ys) ∧ Q (.int ys.length) H)
theorem s_len : OpN T X.K kLen (rLen2 X.K) := by
  intro M H h vs xs Er Q hr r p
  unfold kLen at p
  split at p
  · split at p
    · rename_i hz
      cases r with
      | cons r1 r2 =>
        cases r2
        cases r1 with
        | p r1 =>
          cases r1
          exact .inl ⟨_, rfl, le_line hz, p.ret .refl hr (.p (.int _))⟩
    · exact p.elim
  · split at p
    · rename_i ds q
      cases r with
      | cons r1 r2 =>
        cases r2
        obtain ⟨a, ys, rfl, hs, ra⟩ := r1.seqV hr q
        rw [ra.length] at p
        exact .inr ⟨a, ys, rfl, hs, p.ret .refl hr (.p (.int _))⟩
    · exact p.elim
  · exact p.elim
section
variable {e : Expr} {a : MA} {p pos : Pos}
theorem sim_len (hm : X.mg "len" = none) (ha : SimA T X W [e] a) (hg : Gl X "len" := by rfl)
    (he : starEach [e] X.env = (false, eval e X.env) :: starEach [] X.env := by rfl) : SimE T X W (.Call (.Name "len" p) [e] [] pos) (mAll kLen a) :=
  sim_callB (call_len_str.or call_len_seq) s_len hg hm PySem.boot_len ha (he := he) (hpl := rfl)
end
end
end EV
end T3
section T4
set_option Elab.async false
set_option linter.all false
set_option maxRecDepth 100000
namespace EV
open PySem PySem.Spec PyProof.Rows L2

inductive Fl where
  | nx | rt (v : Vl) | bk | ct
abbrev RS := Option (Except Nat Fl × Sl × Hs)
abbrev MS := Sl → Hs → RS
def bndS {α : Type} (r : Rs α) (S : Sl) (k : α → Hs → RS) : RS := match r with
  | none => none
  | some (.error c, h) => some (.error c, S, h)
  | some (.ok v, h) => k v h
section
variable (T : Tb) (K : PySem.W.Frag)
def postS (W : WX) (M : Trk) (H : Hp) (D : Ends) : RS → Prop
  | none => False
  | some (.error c, S', h') => ∀ M' H' σ', Ext M H M' H' → HR T K M' H' h' → SR T K M' H' S' σ' → W (.ref (T.exc c)) none σ' H'
  | some (.ok .nx, S', h') => ∀ M' H' σ', Ext M H M' H' → HR T K M' H' h' → SR T K M' H' S' σ' → D.nx σ' H'
  | some (.ok .bk, S', h') => ∀ M' H' σ', Ext M H M' H' → HR T K M' H' h' → SR T K M' H' S' σ' → D.bk σ' H'
  | some (.ok .ct, S', h') => ∀ M' H' σ', Ext M H M' H' → HR T K M' H' h' → SR T K M' H' S' σ' → D.ct σ' H'
  | some (.ok (.rt v), S', h') => ∀ M' H' x, Ext M H M' H' → HR T K M' H' h' → RV T K M' H' v x → D.rt x H'
def trS (W : WX) (m : MS) : TS := fun D σ H => ∃ S M h, SR T K M H S σ ∧ HR T K M H h ∧ postS T K W M H D (m S h)
end
section
variable {T : Tb} {K : PySem.W.Frag} {W : WX} {M M' : Trk} {H H' : Hp} {D : Ends} {α β : Type} {R : Trk → Hp → α → β → Prop}
theorem postS.ext {r : RS} (p : postS T K W M H D r) (e : Ext M H M' H') : postS T K W M' H' D r := by
  match r, p with
  | some (.error c, S', h'), p => exact fun M2 H2 σ e2 => p M2 H2 σ (e.trans e2)
  | some (.ok .nx, S', h'), p => exact fun M2 H2 σ e2 => p M2 H2 σ (e.trans e2)
  | some (.ok .bk, S', h'), p => exact fun M2 H2 σ e2 => p M2 H2 σ (e.trans e2)
  | some (.ok .ct, S', h'), p => exact fun M2 H2 σ e2 => p M2 H2 σ (e.trans e2)
  | some (.ok (.rt v), S', h'), p => exact fun M2 H2 x e2 => p M2 H2 x (e.trans e2)
theorem postS.bnd {r : Rs α} {S : Sl} {σ : L2.St} {k : α → Hs → RS} {Q : β → Hp → Prop} (p : postS T K W M H D (bndS r S k)) (sr : SR T K M H S σ)
    (f : ∀ v h1 M1 H1 x, Ext M H M1 H1 → SR T K M1 H1 S σ → HR T K M1 H1 h1 → R M1 H1 v x → postS T K W M1 H1 D (k v h1) → Q x H1) : post T K R M H (erAt T W σ) Q r := by
  match r, p with
  | some (.error c, h'), p => exact fun M1 H1 e hr => p M1 H1 σ e hr (sr.ext e)
  | some (.ok v, h'), p => exact fun M1 H1 x e hr rx => f v h' M1 H1 x e (sr.ext e) hr rx (postS.ext (r := k v h') p e)
/-- only the ways out of D that are asked are needed -/
theorem postS.to {r : RS} {D' : Ends} (p : postS T K W M H D r) (h1 : ∀ σ H, D.nx σ H → D'.nx σ H) (h2 : ∀ x H, D.rt x H → D'.rt x H) (h3 : ∀ σ H, D.bk σ H → D'.bk σ H) (h4 : ∀ σ H, D.ct σ H → D'.ct σ H) : postS T K W M H D' r := by
  match r, p with
  | some (.error c, S', h'), p => exact p
  | some (.ok .nx, S', h'), p => exact fun M2 H2 σ a b c => h1 _ _ (p M2 H2 σ a b c)
  | some (.ok .bk, S', h'), p => exact fun M2 H2 σ a b c => h3 _ _ (p M2 H2 σ a b c)
  | some (.ok .ct, S', h'), p => exact fun M2 H2 σ a b c => h4 _ _ (p M2 H2 σ a b c)
  | some (.ok (.rt v), S', h'), p => exact fun M2 H2 x a b c => h2 _ _ (p M2 H2 x a b c)
end

section
variable (T : Tb) (X : Cx) (W : WX)
abbrev SimS (s : Stmt) (m : MS) : Prop := PS X s (trS T X.K W m)
abbrev SimSs (s : List Stmt) (m : MS) : Prop := PSs X s (trS T X.K W m)
end
section
variable {T : Tb} {X : Cx} {W : WX}
def sNil : MS := fun S h => some (.ok .nx, S, h)
def sSeq (a b : MS) : MS := fun S h => match a S h with
  | some (.ok .nx, S', h') => b S' h'
  | r => r
theorem sims_nil : SimSs T X W [] sNil := PSs.weak pss_nil fun D σ H ⟨S, M, h, sr, hr, p⟩ => p M H σ .refl hr sr
theorem sims_cons {st : Stmt} {rest : List Stmt} {a b : MS} (ha : SimS T X W st a) (hb : SimSs T X W rest b) : SimSs T X W (st :: rest) (sSeq a b) := by
  refine PSs.weak (pss_cons ha hb) fun D σ H ⟨S, M, h, sr, hr, p⟩ => ⟨S, M, h, sr, hr, ?_⟩
  unfold sSeq at p
  match e : a S h, p with
  | some (.ok .nx, S', h'), p => exact fun M' H' σ' e' hr' sr' => ⟨S', M', h', sr', hr', postS.ext p e'⟩
  | some (.error c, S', h'), p => exact p
  | some (.ok .bk, S', h'), p => exact p
  | some (.ok .ct, S', h'), p => exact p
  | some (.ok (.rt v), S', h'), p => exact p
def sPass : MS := fun S h => some (.ok .nx, S, h)
theorem sim_pass {pos : Pos} : SimS T X W (.Pass pos) sPass := PS.weak ps_pass fun D σ H ⟨S, M, h, sr, hr, p⟩ => p M H σ .refl hr sr
def sExpr (m : ME) : MS := fun S h => bndS (m S h) S fun _ h1 => some (.ok .nx, S, h1)
theorem sim_expr {e : Expr} {m : ME} {pos : Pos} (he : SimE T X W e m) (hs : swapsWith e none pos.line X.env = pure false := by rfl) : SimS T X W (.Expr e pos) (sExpr m) :=
  PS.weak (ps_expr he hs) fun D σ H ⟨S, M, h, sr, hr, p⟩ => ⟨S, M, h, sr, hr, p.bnd sr fun v h1 M1 H1 x e1 sr1 hr1 r1 p1 => p1 M1 H1 σ .refl hr1 sr1⟩
def sRet (m : ME) : MS := fun S h => bndS (m S h) S fun v h1 => some (.ok (.rt v), S, h1)
theorem sim_ret {e : Expr} {m : ME} {pos : Pos} (he : SimE T X W e m) : SimS T X W (.Return (some e) pos) (sRet m) :=
  PS.weak (ps_ret he) fun D σ H ⟨S, M, h, sr, hr, p⟩ => ⟨S, M, h, sr, hr, p.bnd sr fun v h1 M1 H1 x e1 sr1 hr1 r1 p1 => p1 M1 H1 x .refl hr1 r1⟩
def sIf (c : MT) (a b : MS) : MS := fun S h => bndS (c S h) S fun k h1 => if k = true then a S h1 else b S h1
theorem sim_ifS {c : Expr} {a b : List Stmt} {mc : MT} {ma mb : MS} {pos : Pos} (hc : SimT T X W c mc) (ha : SimSs T X W a ma) (hb : SimSs T X W b mb) : SimS T X W (.If c a b pos) (sIf mc ma mb) := by
  refine PS.weak (ps_if hc ha hb) fun D σ H ⟨S, M, h, sr, hr, p⟩ => ⟨S, M, h, sr, hr, p.bnd sr fun v h1 M1 H1 x e1 sr1 hr1 r1 p1 => ?_⟩
  cases (r1 : v = x)
  cases v with
  | true => exact ⟨S, M1, h1, sr1, hr1, p1⟩
  | false => exact ⟨S, M1, h1, sr1, hr1, p1⟩
def sSet (i : Nat) (m : ME) : MS := fun S h => bndS (m S h) S fun v h1 => some (.ok .nx, S.set i (some v), h1)
theorem sim_set (i : Nat) {x : Str} {e : Expr} {m : ME} {pos pos' : Pos} (hN : X.N.Nodup) (he : SimE T X W e m) (hi : X.N[i]? = some x := by rfl) (hx : Loc X.env.scope x := by first | exact Or.inl rfl | exact Or.inr rfl) (hs : swapsWith e (some (.Name x pos')) pos.line X.env = pure false := by rfl) (hf : X.fn x = true ∨ X.env.scope.names.lookup x = some .local := by first | exact .inl rfl | exact .inr rfl) :
    SimS T X W (.Assign [.Name x pos'] e pos) (sSet i m) :=
  PS.weak (ps_set hN hi hx he hs hf) fun D σ H ⟨S, M, h, sr, hr, p⟩ => ⟨S, M, h, sr, hr, p.bnd sr fun v h1 M1 H1 x e1 sr1 hr1 r1 p1 => p1 M1 H1 _ .refl hr1 (sr1.set r1 i)⟩
/-- a, b = x, y -/
def sPar (i j : Nat) (a : MA) : MS := fun S h => bndS (a S h) S fun vs h1 => match vs with
  | [v, w] => some (.ok .nx, (S.set i (some v)).set j (some w), h1)
  | _ => none
theorem sim_par (i j : Nat) {x y : Str} {a b : Expr} {m : MA} {px py pt pos : Pos} {kt k2 : Nat} {pt2 : Pos} (hc : X.calm = true) (hN : X.N.Nodup) (ha : SimA T X W [a, b] m) (hi : X.N[i]? = some x := by rfl) (hj : X.N[j]? = some y := by rfl) (hij : i ≠ j := by decide)
    (h1 : X.env.scope.names.lookup x = some .local := by rfl) (h2 : X.env.scope.names.lookup y = some .local := by rfl) (hw : swappedStores [.Tuple [.Name x px, .Name y py] kt pt] (.Tuple [a, b] k2 pt2) X.env = pure (some [x, y]) := by rfl)
    (hs : swapsWithSole [.Tuple [.Name x px, .Name y py] kt pt] (.Tuple [a, b] k2 pt2) pos.line X.env = pure false := by rfl) :
    SimS T X W (.Assign [.Tuple [.Name x px, .Name y py] kt pt] (.Tuple [a, b] k2 pt2) pos) (sPar i j m) := by
  refine PS.weak (ps_par hc hN hi hj hij h1 h2 ha hw hs) fun D σ H ⟨S, M, h, sr, hr, p⟩ => ⟨S, M, h, sr, hr, p.bnd sr fun vs h1 M1 H1 xs e1 sr1 hr1 r1 p1 => ?_⟩
  split at p1
  · cases r1 with
    | cons ra r1 =>
      cases r1 with
      | cons rb r1 =>
        cases r1
        exact ⟨_, _, rfl, p1 M1 H1 _ .refl hr1 ((sr1.set ra i).set rb j)⟩
  · exact p1.elim
def sPar3 (i j l : Nat) (a : MA) : MS := fun S h => bndS (a S h) S fun vs h1 => match vs with
  | [u, v, w] => some (.ok .nx, ((S.set i (some u)).set j (some v)).set l (some w), h1)
  | _ => none
theorem sim_par3 (i j l : Nat) {x y z : Str} {a b c : Expr} {m : MA} {px py pz pt pos : Pos} {kt k2 : Nat} {pt2 : Pos} (hc : X.calm = true) (hN : X.N.Nodup) (ha : SimA T X W [a, b, c] m) (hi : X.N[i]? = some x := by rfl) (hj : X.N[j]? = some y := by rfl) (hl : X.N[l]? = some z := by rfl) (hij : i ≠ j := by decide) (hil : i ≠ l := by decide) (hjl : j ≠ l := by decide)
    (h1 : X.env.scope.names.lookup x = some .local := by rfl) (h2 : X.env.scope.names.lookup y = some .local := by rfl) (h3 : X.env.scope.names.lookup z = some .local := by rfl) (hw : swappedStores [.Tuple [.Name x px, .Name y py, .Name z pz] kt pt] (.Tuple [a, b, c] k2 pt2) X.env = pure (some [x, y, z]) := by rfl)
    (hs : swapsWithSole [.Tuple [.Name x px, .Name y py, .Name z pz] kt pt] (.Tuple [a, b, c] k2 pt2) pos.line X.env = pure false := by rfl) :
    SimS T X W (.Assign [.Tuple [.Name x px, .Name y py, .Name z pz] kt pt] (.Tuple [a, b, c] k2 pt2) pos) (sPar3 i j l m) := by
  refine PS.weak (ps_par3 hc hN hi hj hl hij hil hjl h1 h2 h3 ha hw hs) fun D σ H ⟨S, M, h, sr, hr, p⟩ => ⟨S, M, h, sr, hr, p.bnd sr fun vs h1 M1 H1 xs e1 sr1 hr1 r1 p1 => ?_⟩
  split at p1
  · cases r1 with
    | cons ra r1 =>
      cases r1 with
      | cons rb r1 =>
        cases r1 with
        | cons rc r1 =>
          cases r1
          exact ⟨_, _, _, rfl, p1 M1 H1 _ .refl hr1 (((sr1.set ra i).set rb j).set rc l)⟩
  · exact p1.elim

/-! ### what is walked -/
/-- what is walked: things that stand, or a tracked list as it is found at each turn -/
inductive Itd where
  | d (ds : List P) | r (n : Nat)
def Itd.at (I : Itd) (i : Nat) (h : Hs) : Option (Option P) := match I with
  | .d ds => some ds[i]?
  | .r n => match h[n]? with
    | some (.lst ds) => some ds[i]?
    | _ => none
def Itd.len (I : Itd) (h : Hs) : Nat := match I with
  | .d ds => ds.length
  | .r n => match h[n]? with
    | some (.lst ds) => ds.length
    | _ => 0
/-- the things that an iterator yields, whatever else happens -/
def ItSim (T : Tb) (K : PySem.W.Frag) (M : Trk) (H : Hp) (I : Itd) (J : It) : Prop :=
  ∀ (i : Nat) M' H' h, Ext M H M' H' → HR T K M' H' h →
    (∀ d, I.at i h = some (some d) → J.go i H' ∧ ∀ x H'', J.yld i H' x H'' → Ext M' H' M' H'' ∧ HR T K M' H'' h ∧ Rp T K M' H'' d x) ∧ (I.at i h = some none → J.stop i H')
/-- of things that stand -/
theorem ItSim.of {T : Tb} {K : PySem.W.Frag} {M : Trk} {H : Hp} {ds : List P} {J : It} (g : ∀ (i : Nat) M' H', Ext M H M' H' → (∀ d, ds[i]? = some d → J.go i H' ∧ ∀ x H'' h, HR T K M' H' h → J.yld i H' x H'' → Ext M' H' M' H'' ∧ HR T K M' H'' h ∧ Rp T K M' H'' d x) ∧ (ds.length ≤ i → J.stop i H')) :
    ItSim T K M H (.d ds) J := fun i M' H' h e hr => by
  obtain ⟨a, b⟩ := g i M' H' e
  exact ⟨fun d hd => ⟨(a d (Option.some.inj hd)).1, fun x H'' y => (a d (Option.some.inj hd)).2 x H'' h hr y⟩, fun hd => b (List.getElem?_eq_none_iff.mp (Option.some.inj hd))⟩
abbrev MI := Sl → Hs → Rs Itd
def trI (T : Tb) (K : PySem.W.Frag) (W : WX) (m : MI) : TI := fun σ H R => ∃ S M h, SR T K M H S σ ∧ HR T K M H h ∧ post T K (ItSim T K) M H (erAt T W σ) R (m S h)
abbrev SimI (T : Tb) (X : Cx) (W : WX) (tg e : Expr) (m : MI) : Prop := PI X tg e (trI T X.K W m)
theorem PI.weak {tg e : Expr} {t t' : TI} (h : PI X tg e t) (f : ∀ σ H Q, t' σ H Q → t σ H Q) : PI X tg e t' := ⟨fun pins s σ H Q I q => h.run pins s σ H Q I (f σ H Q q)⟩
theorem it_list {M : Trk} {H : Hp} {a : Addr} {xs : List V} {ds : List P} (hl : SqL X.K H a xs) (hk : ∀ M' H', Ext M H M' H' → SqL X.K H' a xs) (r : RpA T X.K M H ds xs) : ItSim T X.K M H (.d ds) (Itl X.K a) := by
  refine .of ?_
  intro i M' H' e
  refine ⟨fun d hd => ?_, fun hi => ⟨xs, hk M' H' e, by rw [← r.length]; exact hi⟩⟩
  obtain ⟨x, hx, rx⟩ := r.get hd
  refine ⟨⟨xs, x, hk M' H' e, hx⟩, fun y H'' h hr q => ?_⟩
  obtain ⟨e1, q⟩ := q
  subst e1
  have e2 : y = x := Option.some.inj ((q xs (hk M' _ e)).symm.trans hx)
  subst e2
  exact ⟨.refl, hr, rx.ext e⟩
theorem it_tup {M : Trk} {H : Hp} {a : Addr} {xs : List V} {ds : List P} (hl : TupM M H a xs) (r : RpA T X.K M H ds xs) : ItSim T X.K M H (.d ds) (Itt X.K a) := by
  refine .of ?_
  intro i M' H' e
  refine ⟨fun d hd => ?_, fun hi => ⟨xs, (hl.ext e).sqT, by rw [← r.length]; exact hi⟩⟩
  obtain ⟨x, hx, rx⟩ := r.get hd
  refine ⟨⟨xs, x, (hl.ext e).sqT, hx⟩, fun y H'' h hr q => ?_⟩
  obtain ⟨e1, q⟩ := q
  subst e1
  have e2 : y = x := Option.some.inj ((q xs (hl.ext e).sqT).symm.trans hx)
  subst e2
  exact ⟨.refl, hr, rx.ext e⟩
def intsP (lo : Int) (n : Nat) : List P := (List.range n).map fun (k : Nat) => P.int (lo + k)
theorem it_range {M : Trk} {H : Hp} (lo : Int) (n : Nat) : ItSim T X.K M H (.d (intsP lo n)) (Itr lo n) := by
  refine .of ?_
  intro i M' H' e
  refine ⟨fun d hd => ?_, fun hi => ?_⟩
  · unfold intsP at hd
    rw [List.getElem?_map] at hd
    have hi : i < n := by
      cases q : (List.range n)[i]? with
      | none => rw [q] at hd; cases hd
      | some k =>
        have := (List.getElem?_eq_some_iff.mp q).1
        simpa using this
    rw [List.getElem?_range hi] at hd
    cases hd
    refine ⟨hi, fun y H'' h hr q => ?_⟩
    obtain ⟨e1, e2⟩ := q
    subst e1 e2
    exact ⟨.refl, hr, .int _⟩
  · have : n ≤ i := by simpa [intsP] using hi
    exact this
/-- a list or a tuple that is data -/
def iSeqL (m : ME) : MI := fun S h => bnd (m S h) fun v h1 => match v with
  | .p (.lst ds) => ret (.d ds) h1
  | .p (.scr ds) => ret (.d ds) h1
  | .ref n => match h1[n]? with
    | some (.lst _) => ret (.r n) h1
    | _ => none
  | _ => none
def iSeqT (m : ME) : MI := fun S h => bnd (m S h) fun v h1 => match v with
  | .p (.tup ds) => ret (.d ds) h1
  | _ => none
theorem trI_then {m : ME} {k : Vl → Hs → Rs Itd} {S : Sl} {M : Trk} {h : Hs} {σ : L2.St} {H : Hp} {Q : It → Hp → Prop} {G : V → Hp → Prop} (sr : SR T X.K M H S σ) (hr : HR T X.K M H h)
    (p : post T X.K (ItSim T X.K) M H (erAt T W σ) Q (bnd (m S h) k))
    (f : ∀ v h1 M1 H1 x, Ext M H M1 H1 → SR T X.K M1 H1 S σ → HR T X.K M1 H1 h1 → RV T X.K M1 H1 v x → post T X.K (ItSim T X.K) M1 H1 (erAt T W σ) Q (k v h1) → G x H1) : tr T X.K W m σ H G :=
  ⟨S, M, h, sr, hr, p.bnd fun v h1 M1 H1 x e hr1 r q => f v h1 M1 H1 x e (sr.ext e) hr1 r q⟩
theorem sim_iL {tg e : Expr} {m : ME} (h : SimE T X W e m) : SimI T X W tg e (iSeqL m) := by
  refine PI.weak (pi_list h) fun σ H Q ⟨S, M, h, sr, hr, p⟩ => trI_then sr hr p fun v h1 M1 H1 x e1 sr1 hr1 r1 p1 => ?_
  split at p1
  · cases r1 with
    | p r1 =>
      cases r1 with
      | lst hl hn ra =>
        exact ⟨_, rfl, ⟨_, .of hl⟩, p1.ret .refl hr1 (it_list (.of hl) (fun M' H' e => .of (e.kept hl hn)) ra)⟩
  · cases r1 with
    | p r1 =>
      cases r1 with
      | scr hl ra =>
        exact ⟨_, rfl, ⟨_, hl.sqL⟩, p1.ret .refl hr1 (it_list hl.sqL (fun M' H' e => (hl.ext e).sqL) ra)⟩
  · cases r1 with
    | ref ea =>
      rename_i n a
      obtain ⟨q, hq, c⟩ := hr1.got ea
      rw [hq] at p1
      cases c with
      | ins _ _ _ => exact p1.elim
      | lst hl ra =>
        refine ⟨a, rfl, ⟨_, .of hl⟩, p1.ret .refl hr1 fun i M' H' h e hr => ?_⟩
        obtain ⟨q', hq', c'⟩ := hr.got (e.get ea)
        cases c' with
        | ins _ _ _ =>
          refine ⟨fun d hd => ?_, fun hd => ?_⟩ <;> (simp only [Itd.at, hq'] at hd; cases hd)
        | lst hl' ra' =>
          refine ⟨fun d hd => ?_, fun hd => ?_⟩
          · simp only [Itd.at, hq'] at hd
            obtain ⟨x, hx, rx⟩ := ra'.get (Option.some.inj hd)
            refine ⟨⟨_, x, .of hl', hx⟩, fun y H'' q => ?_⟩
            obtain ⟨e1, q⟩ := q
            subst e1
            have e2 : y = x := Option.some.inj ((q _ (.of hl')).symm.trans hx)
            subst e2
            exact ⟨.refl, hr, rx⟩
          · simp only [Itd.at, hq'] at hd
            exact ⟨_, .of hl', by rw [← ra'.length]; exact List.getElem?_eq_none_iff.mp (Option.some.inj hd)⟩
  · exact p1.elim
theorem sim_iT {tg e : Expr} {m : ME} (h : SimE T X W e m) : SimI T X W tg e (iSeqT m) := by
  refine PI.weak (pi_tup h) fun σ H Q ⟨S, M, h, sr, hr, p⟩ => trI_then sr hr p fun v h1 M1 H1 x e1 sr1 hr1 r1 p1 => ?_
  split at p1
  · cases r1 with
    | p r1 =>
      cases r1 with
      | tup hl ra => exact ⟨_, rfl, ⟨_, hl.sqT⟩, p1.ret .refl hr1 (it_tup hl ra)⟩
  · exact p1.elim
def iRange (a : MA) : MI := fun S h => bnd (a S h) fun vs h1 => match vs with
  | [.p (.int j)] => if -(2 ^ 62) ≤ j ∧ j < 2 ^ 62 then ret (.d (intsP 0 j.toNat)) h1 else none
  | [.p (.int i), .p (.int j)] => if -(2 ^ 62) ≤ i ∧ i < 2 ^ 62 ∧ -(2 ^ 62) ≤ j ∧ j < 2 ^ 62 then ret (.d (intsP i (j - i).toNat)) h1 else none
  | _ => none
def iRange1 (a : MA) : MI := fun S h => bnd (a S h) fun vs h1 => match vs with
  | [.p (.int j)] => if -(2 ^ 62) ≤ j ∧ j < 2 ^ 62 then ret (.d (intsP 0 j.toNat)) h1 else none
  | _ => none
def iRange2 (a : MA) : MI := fun S h => bnd (a S h) fun vs h1 => match vs with
  | [.p (.int i), .p (.int j)] => if -(2 ^ 62) ≤ i ∧ i < 2 ^ 62 ∧ -(2 ^ 62) ≤ j ∧ j < 2 ^ 62 then ret (.d (intsP i (j - i).toNat)) h1 else none
  | _ => none
theorem sim_iR1 {tg a : Expr} {m : MA} {p pos : Pos} (hm : X.mg "range" = none) (ha : SimA T X W [a] m) (hg : Gl X "range" := by rfl) (hs : starEach [a] X.env = [(false, eval a X.env)] := by rfl) : SimI T X W tg (.Call (.Name "range" p) [a] [] pos) (iRange1 m) := by
  refine PI.weak (pi_range1 hg hm ha hs) fun σ H Q ⟨S, M, h, sr, hr, p⟩ => trA_then sr hr p fun vs h1 M1 H1 xs e1 sr1 hr1 r1 p1 => ?_
  split at p1
  · split at p1
    · rename_i hb
      cases r1 with
      | cons ra r1 =>
        cases r1
        cases ra with
        | p ra =>
          cases ra
          exact ⟨_, rfl, hb.1, hb.2, p1.ret .refl hr1 (it_range _ _)⟩
    · exact p1.elim
  · exact p1.elim
theorem sim_iR2 {tg a b : Expr} {m : MA} {p pos : Pos} (hm : X.mg "range" = none) (ha : SimA T X W [a, b] m) (hg : Gl X "range" := by rfl) (hs : starEach [a, b] X.env = [(false, eval a X.env), (false, eval b X.env)] := by rfl) (hs2 : starEach [b] X.env = [(false, eval b X.env)] := by rfl) : SimI T X W tg (.Call (.Name "range" p) [a, b] [] pos) (iRange2 m) := by
  refine PI.weak (pi_range2 hg hm ha hs hs2) fun σ H Q ⟨S, M, h, sr, hr, p⟩ => trA_then sr hr p fun vs h1 M1 H1 xs e1 sr1 hr1 r1 p1 => ?_
  split at p1
  · split at p1
    · rename_i hb
      cases r1 with
      | cons ra r1 =>
        cases r1 with
        | cons rb r1 =>
          cases r1
          cases ra with
          | p ra =>
            cases rb with
            | p rb =>
              cases ra
              cases rb
              exact ⟨_, _, rfl, hb, p1.ret .refl hr1 (it_range _ _)⟩
    · exact p1.elim
  · exact p1.elim

/-! ### targets -/
abbrev MG := P → Sl → Option Sl
def trG (T : Tb) (K : PySem.W.Frag) (js : List Nat) (g : MG) : TG := fun v σ H Q => ∃ S M h d S', SR T K M H S σ ∧ HR T K M H h ∧ Rp T K M H d v ∧ g d S = some S' ∧
  ∀ σ', SR T K M H S' σ' → (∀ vs, (∀ j ∈ js, j ∈ vs) → wipe σ' vs = wipe σ vs) → Q σ' H
abbrev SimG (T : Tb) (X : Cx) (tg : Expr) (js : List Nat) (g : MG) : Prop := PG X tg (trG T X.K js g)
theorem PG.weak {tg : Expr} {t t' : TG} (h : PG X tg t) (f : ∀ v σ H Q, t' v σ H Q → t v σ H Q) : PG X tg t' := ⟨fun pins s σ H v u Q I r q => h.run pins s σ H v u Q I r (f v σ H Q q)⟩
theorem wipe_get {σ : L2.St} {j : Nat} : ∀ {vs : List Nat}, j ∉ vs → (wipe σ vs)[j]? = σ[j]?
  | [], _ => rfl
  | v :: vs, h => by
    unfold wipe
    have h1 : j ≠ v := fun e => h (by rw [e]; exact List.mem_cons_self)
    rw [List.getElem?_set_ne (Ne.symm h1)]
    exact wipe_get fun z => h (List.mem_cons_of_mem _ z)
theorem wipe_at {σ : L2.St} {j : Nat} : ∀ {vs : List Nat}, j ∈ vs → j < σ.length → (wipe σ vs)[j]? = some none
  | [], h, _ => by cases h
  | v :: vs, h, hl => by
    unfold wipe
    by_cases e : v = j
    · subst e
      rw [List.getElem?_set_self (by rw [wipe_length]; exact hl)]
    · rw [List.getElem?_set_ne e]
      exact wipe_at (by
        rcases List.mem_cons.mp h with z | z
        · exact absurd z.symm e
        · exact z) hl
theorem wipe_ext {σ τ : L2.St} {vs : List Nat} (hl : σ.length = τ.length) (h : ∀ j, j ∉ vs → σ[j]? = τ[j]?) : wipe σ vs = wipe τ vs := by
  refine List.ext_getElem? fun j => ?_
  by_cases hj : j ∈ vs
  · by_cases hb : j < σ.length
    · rw [wipe_at hj hb, wipe_at hj (by rw [← hl]; exact hb)]
    · rw [List.getElem?_eq_none (by rw [wipe_length]; exact Nat.le_of_not_lt hb), List.getElem?_eq_none (by rw [wipe_length, ← hl]; exact Nat.le_of_not_lt hb)]
  · rw [wipe_get hj, wipe_get hj]; exact h j hj
theorem wipe_set {σ : L2.St} {j : Nat} {y : Option V} {vs : List Nat} (hj : j ∈ vs) : wipe (σ.set j y) vs = wipe σ vs :=
  wipe_ext (by simp) fun i hi => by
    have h1 : j ≠ i := fun e => hi (by rw [← e]; exact hj)
    rw [List.getElem?_set_ne h1]
theorem wipe_wipe {σ : L2.St} {vs : List Nat} : wipe (wipe σ vs) vs = wipe σ vs := wipe_ext (wipe_length _ _) fun j hj => wipe_get hj
def gN (i : Nat) : MG := fun d S => some (S.set i (some (.p d)))
theorem sim_gN (i : Nat) {x : Str} {pos : Pos} (hN : X.N.Nodup) (hi : X.N[i]? = some x := by rfl) (hx : Loc X.env.scope x := by first | exact Or.inl rfl | exact Or.inr rfl) (hf : X.fn x = true ∨ X.env.scope.names.lookup x = some .local := by first | exact .inl rfl | exact .inr rfl) : SimG T X (.Name x pos) [i] (gN i) := by
  refine PG.weak (pg_name hN hi hx hf) fun v σ H Q ⟨S, M, h, d, S', sr, hr, rd, e, q⟩ => ?_
  cases e
  exact q _ (sr.set (.p rd) i) fun vs hv => wipe_set (hv i (by simp))
/-- several names at once -/
abbrev MGs := List P → Sl → Option Sl
def trGs (T : Tb) (K : PySem.W.Frag) (js : List Nat) (g : MGs) : TGs := fun vs σ H Q => ∃ S M h ds S', SR T K M H S σ ∧ HR T K M H h ∧ RpA T K M H ds vs ∧ g ds S = some S' ∧
  ∀ σ', SR T K M H S' σ' → (∀ vs, (∀ j ∈ js, j ∈ vs) → wipe σ' vs = wipe σ vs) → Q σ' H
abbrev SimGs (T : Tb) (X : Cx) (tg : List Expr) (js : List Nat) (g : MGs) : Prop := PGs X tg (trGs T X.K js g)
def gsNil : MGs := fun ds S => match ds with
  | [] => some S
  | _ => none
def gsCons (g : MG) (r : MGs) : MGs := fun ds S => match ds with
  | d :: ds => match g d S with
    | some S1 => r ds S1
    | none => none
  | [] => none
theorem sim_gsNil : SimGs T X [] [] gsNil := ⟨fun pins s σ H vs us Q I r ⟨S, M, h, ds, S', sr, hr, rd, e, q⟩ => pgs_nil.run pins s σ H vs us Q I r (by
  unfold gsNil at e
  split at e
  · cases e
    cases rd
    exact ⟨rfl, q σ sr fun _ _ => rfl⟩
  · cases e)⟩
theorem sim_gsCons {tg : Expr} {tgs : List Expr} {js ks : List Nat} {g : MG} {r : MGs} (h1 : SimG T X tg js g) (h2 : SimGs T X tgs ks r)
    (hs : (assignEach (tg :: tgs) X.env).map (·.2) = assign tg X.env :: (assignEach tgs X.env).map (·.2) := by rfl) : SimGs T X (tg :: tgs) (js ++ ks) (gsCons g r) :=
  ⟨fun pins s σ H vs us Q I rr ⟨S, M, h, ds, S', sr, hr, rd, e, q⟩ => (pgs_cons h1 h2 hs).run pins s σ H vs us Q I rr (by
    unfold gsCons at e
    split at e
    · rename_i d ds
      cases rd with
      | cons ra rb =>
        split at e
        · rename_i S1 e1
          refine ⟨_, _, rfl, S, M, h, d, S1, sr, hr, ra, e1, fun σ1 sr1 w1 => ?_⟩
          refine ⟨S1, M, h, ds, S', sr1, hr, rb, e, fun σ2 sr2 w2 => q σ2 sr2 fun vs hv => ?_⟩
          rw [w2 vs fun j hj => hv j (List.mem_append_right _ hj), w1 vs fun j hj => hv j (List.mem_append_left _ hj)]
        · cases e
    · cases e)⟩
def gT (n : Nat) (r : MGs) : MG := fun d S => match d with
  | .tup ds => if ds.length = n then r ds S else none
  | _ => none
theorem sim_gT {es : List Expr} {js : List Nat} {r : MGs} {n k : Nat} {pos : Pos} (hc : X.calm = true) (h : SimGs T X es js r) (hn : (assignEach es X.env).length = n := by rfl) (hst : (assignEach es X.env).findIdx? (·.1) = none := by rfl) : SimG T X (.Tuple es k pos) js (gT n r) := by
  refine PG.weak (pg_tup hc h hn hst) fun v σ H Q ⟨S, M, h, d, S', sr, hr, rd, e, q⟩ => ?_
  unfold gT at e
  split at e
  · cases rd with
    | tup ht ra =>
      split at e
      · rename_i hl
        exact ⟨_, _, rfl, ht.sqT, by rw [← ra.length]; exact hl, S, M, h, _, S', sr, hr, ra, e, q⟩
      · cases e
  · cases e

/-! ### for -/
def forS (g : MG) (b : MS) (I : Itd) : Nat → Nat → MS
  | 0, i, S, h => match I.at i h with
    | some none => some (.ok .nx, S, h)
    | _ => none
  | k + 1, i, S, h => match I.at i h with
    | none => none
    | some none => some (.ok .nx, S, h)
    | some (some d) => match g d S with
      | none => none
      | some S1 => match b S1 h with
        | some (.ok .nx, S2, h2) => forS g b I k (i + 1) S2 h2
        | some (.ok .ct, S2, h2) => forS g b I k (i + 1) S2 h2
        | some (.ok .bk, S2, h2) => some (.ok .nx, S2, h2)
        | r => r
def sFor (mi : MI) (g : MG) (b : MS) : MS := fun S h => bndS (mi S h) S fun I h1 => forS g b I (I.len h1) 0 S h1
theorem sim_for {tg iter : Expr} {body : List Stmt} {mi : MI} {js : List Nat} {g : MG} {b : MS} {pos : Pos} (hp : PassesOwn (model X.prog X.w) X.A X.env X.xe) (hc : X.calm = true) (hi : SimI T X W tg iter mi) (hg : SimG T X tg js g) (hb : SimSs T X W body b)
    (hs : ∀ x, foldedSetIterable iter X.env x = pure x := by intro _; rfl) : SimS T X W (.For tg iter body [] pos) (sFor mi g b) := by
  refine PS.weak (ps_for hp hc hi hg hb hs) fun D σ H ⟨S, M, h, sr, hr, p⟩ => ⟨S, M, h, sr, hr, p.bnd sr fun I h1 M1 H1 J e1 sr1 hr1 r1 p1 => ?_⟩
  refine ⟨fun i m σ' H' => ∃ S' M' h', Ext M1 H1 M' H' ∧ SR T X.K M' H' S' σ' ∧ HR T X.K M' H' h' ∧ postS T X.K W M' H' D (forS g b I m i S' h'), ⟨I.len h1, S, M1, h1, .refl, sr1, hr1, p1⟩, ?_⟩
  rintro i m σ2 H2 ⟨S2, M2, h2, e2, sr2, hr2, p2⟩
  obtain ⟨q1, q2⟩ := r1 i M2 H2 h2 e2 hr2
  cases hat : I.at i h2 with
  | none =>
    cases m <;> (simp only [forS, hat] at p2; exact p2.elim)
  | some o =>
    cases o with
    | none =>
      refine .inl ⟨q2 hat, ?_⟩
      cases m <;> (simp only [forS, hat] at p2; exact p2 M2 H2 σ2 .refl hr2 sr2)
    | some d =>
      cases m with
      | zero => simp only [forS, hat] at p2; exact p2.elim
      | succ m =>
        simp only [forS, hat] at p2
        obtain ⟨go, yl⟩ := q1 d hat
        refine .inr ⟨go, fun σ' H' => ∃ S' M' h', Ext M1 H1 M' H' ∧ SR T X.K M' H' S' σ' ∧ HR T X.K M' H' h' ∧ postS T X.K W M' H' D (forS g b I m (i + 1) S' h'), ?_, fun x H' hy => ?_⟩
        · rintro σ' H' ⟨S', M', h', a1, a2, a3, a4⟩
          exact ⟨m, Nat.lt_succ_self _, S', M', h', a1, a2, a3, a4⟩
        · obtain ⟨e3, hr3, rx⟩ := yl x H' hy
          cases eg : g d S2 with
          | none => rw [eg] at p2; exact p2.elim
          | some S3 =>
            rw [eg] at p2
            dsimp only at p2
            refine ⟨S2, M2, h2, d, S3, sr2.ext e3, hr3, rx, eg, fun σ3 sr3 _ => ?_⟩
            refine ⟨S3, M2, h2, sr3, hr3, ?_⟩
            have p3 := postS.ext p2 e3
            clear p2
            match eb : b S3 h2, p3 with
            | some (.error c, S4, h4), p3 => exact p3
            | some (.ok .nx, S4, h4), p3 =>
              exact fun M' H4 σ' a1 a2 a3 => ⟨S4, M', h4, (e2.trans e3).trans a1, a3, a2, postS.ext p3 a1⟩
            | some (.ok .ct, S4, h4), p3 =>
              exact fun M' H4 σ' a1 a2 a3 => ⟨S4, M', h4, (e2.trans e3).trans a1, a3, a2, postS.ext p3 a1⟩
            | some (.ok .bk, S4, h4), p3 => exact p3
            | some (.ok (.rt v), S4, h4), p3 => exact p3
            | none, p3 => exact p3.elim
end
end EV
end T4
section T5
set_option Elab.async false
set_option linter.all false
set_option maxRecDepth 100000
namespace EV
open PySem PySem.Spec PyProof.Rows L2

abbrev W0 : WX := fun _ _ _ _ => False
/-- an error within a comprehension is not served -/
def noErr {α : Type} (r : Rs α) : Rs α := match r with
  | some (.error _, _) => none
  | r => r
def wipeS (S : Sl) : List Nat → Sl
  | [] => S
  | v :: vs => (wipeS S vs).set v none
section
variable {T : Tb} {K : PySem.W.Frag} {M : Trk} {H : Hp}
theorem SR.clear {S : Sl} {σ : L2.St} (s : SR T K M H S σ) (i : Nat) : SR T K M H (S.set i none) (σ.set i none) := by
  refine ⟨by simp [s.len], fun j u h => ?_⟩
  by_cases e : i = j
  · subst e
    by_cases hl : i < S.length
    · rw [List.getElem?_set_self hl] at h; cases h
    · rw [List.getElem?_eq_none (by simpa using Nat.le_of_not_lt hl)] at h; cases h
  · rw [List.getElem?_set_ne e] at h
    obtain ⟨y, a, b⟩ := s.at' j u h
    exact ⟨y, by rw [List.getElem?_set_ne e]; exact a, b⟩
theorem SR.wipe {S : Sl} {σ : L2.St} (s : SR T K M H S σ) : ∀ vs : List Nat, SR T K M H (wipeS S vs) (L2.wipe σ vs)
  | [] => s
  | v :: vs => (SR.wipe s vs).clear v
theorem post.noErr {α β : Type} {R : Trk → Hp → α → β → Prop} {Er Er' : Nat → Hp → Prop} {Q : β → Hp → Prop} {r : Rs α} (p : post T K R M H Er Q (EV.noErr r)) : post T K R M H Er' Q r := by
  match r, p with
  | some (.ok v, h'), p => exact p
end
/-- the items of a comprehension -/
def compL (g : MG) (tt : MT) (te : ME) (S : Sl) (I : Itd) : Nat → Nat → Hs → Rs (List P)
  | 0, i, h => match I.at i h with
    | some none => ret [] h
    | _ => none
  | k + 1, i, h => match I.at i h with
    | none => none
    | some none => ret [] h
    | some (some d) => match g d S with
      | none => none
      | some S1 => bnd (noErr (tt S1 h)) fun b h1 => if b = true then bnd (noErr (te S1 h1)) fun v h2 => (match v with
          | .p y => bnd (compL g tt te S I k (i + 1) h2) fun ys h3 => ret (y :: ys) h3
          | .ref _ => none)
        else compL g tt te S I k (i + 1) h1
def mComp (mi : MI) (g : MG) (tt : MT) (te : ME) (vs : List Nat) : ME := fun S h => bnd (mi S h) fun I h1 => if I.len h1 ≤ 16777216 then bnd (compL g tt te (wipeS S vs) I (I.len h1) 0 h1) fun ys h2 => ret (.p (.lst ys)) h2 else none
section
variable {T : Tb} {X : Cx} {W : WX}
def tYesM : MT := fun _ h => ret true h
abbrev SimTs (T : Tb) (X : Cx) (W : WX) (es : List Expr) (t : MT) : Prop := PTs X es (trT T X.K W t)
theorem simTs_nil : SimTs T X W [] tYesM := ⟨fun pins s σ H Q I ⟨S, M, h, sr, hr, p⟩ => pts_nil.run pins s σ H Q I (p.ret .refl hr rfl)⟩
theorem simTs_one {c : Expr} {t : MT} (h : SimT T X W c t) : SimTs T X W [c] t := pts_one h

theorem post_bndE {α β γ δ : Type} {K : PySem.W.Frag} {M M0 : Trk} {H H0 : Hp} {R : Trk → Hp → α → β → Prop} {R2 : Trk → Hp → γ → δ → Prop} {Er Er' : Nat → Hp → Prop} {Q : β → Hp → Prop} {Q2 : δ → Hp → Prop} {r : Rs α} {k : α → Hs → Rs γ}
    (p : post T K R2 M0 H0 Er' Q2 (bnd (noErr r) k))
    (f : ∀ v h1 M1 H1 x, Ext M H M1 H1 → HR T K M1 H1 h1 → R M1 H1 v x → post T K R2 M0 H0 Er' Q2 (k v h1) → Q x H1) : post T K R M H Er Q r := by
  match r, p with
  | some (.ok v, h'), p => exact fun M1 H1 x e hr rx => f v h' M1 H1 x e hr rx p
theorem bnd_bnd {α β γ : Type} (r : Rs α) (k : α → Hs → Rs β) (k2 : β → Hs → Rs γ) : bnd (bnd r k) k2 = bnd r fun b h => bnd (k b h) k2 := by
  match r with
  | none => rfl
  | some (.error c, h) => rfl
  | some (.ok v, h) => rfl
theorem bnd_ret {α β : Type} (v : α) (h : Hs) (k : α → Hs → Rs β) : bnd (ret v h) k = k v h := rfl
/-- the list that is made, D, stands barred: no data refers to it -/
structure CompI (T : Tb) (K : PySem.W.Frag) (M1 : Trk) (H1 : Hp) (D : Addr) (M : Trk) (H : Hp) (h : Hs) (acc : List P) (xs : List V) : Prop where
  ext : Ext M1 H1 M H
  hr : HR T K M H h
  bar : D ∈ M.no
  at' : H D = some (.lst xs)
  out : D ∉ M.tk
  r : RpA T K M H acc xs
theorem CompI.step {K : PySem.W.Frag} {M1 M M' : Trk} {H1 H H' : Hp} {D : Addr} {h h' : Hs} {acc : List P} {xs : List V} (c : CompI T K M1 H1 D M H h acc xs) (e : Ext M H M' H') (hr : HR T K M' H' h') : CompI T K M1 H1 D M' H' h' acc xs :=
  ⟨c.ext.trans e, hr, e.nos D c.bar, e.keep D _ c.at' c.out, e.outT c.at' c.out, c.r.ext e⟩
theorem CompI.push {K : PySem.W.Frag} {M1 M : Trk} {H1 H : Hp} {D : Addr} {h : Hs} {acc : List P} {xs : List V} {d : P} {y : V} (c : CompI T K M1 H1 D M H h acc xs) (hD : H1 D = none) (r : Rp T K M H d y) : CompI T K M1 H1 D M (L2.upd H D (.lst (xs ++ [y]))) h (acc ++ [d]) (xs ++ [y]) := by
  refine ⟨⟨c.ext.pre, c.ext.nos, c.ext.new, fun a o e n => ?_, fun a e => c.ext.live a (live_upd e)⟩, c.hr.writeN c.bar c.out, c.bar, upd_same, c.out, (c.r.append (.cons r .nil)).barred c.bar⟩
  rw [upd_ne (ne_of_none e hD)]
  exact c.ext.keep a o e n
/-- the list is done: no longer barred -/
def unbar (M : Trk) (D : Addr) (h : D ∉ M.tk) : Trk := ⟨M.tk, M.no.filter fun a => decide (a ≠ D), fun a ha => List.mem_filter.mpr ⟨M.sub a ha, decide_eq_true fun z => h (by rw [← z]; exact ha)⟩⟩
theorem mem_unbar {M : Trk} {D a : Addr} {h : D ∉ M.tk} : a ∈ (unbar M D h).no ↔ a ∈ M.no ∧ a ≠ D := by simp [unbar]
theorem CompI.done {K : PySem.W.Frag} {M1 M : Trk} {H1 H : Hp} {D : Addr} {h : Hs} {acc : List P} {xs : List V} (c : CompI T K M1 H1 D M H h acc xs) (hD : H1 D = none) (nD : D ∉ M1.no) :
    Ext M1 H1 (unbar M D c.out) H ∧ HR T K (unbar M D c.out) H h ∧ RV T K (unbar M D c.out) H (.p (.lst acc)) (.ref D) := by
  refine ⟨⟨c.ext.pre, fun a ha => mem_unbar.mpr ⟨c.ext.nos a ha, fun z => nD (by rw [← z]; exact ha)⟩, fun a h1 h2 => c.ext.new a (mem_unbar.mp h1).1 h2, c.ext.keep, c.ext.live⟩,
    c.hr.less rfl fun a ha => (mem_unbar.mp ha).1, .p (.lst c.at' (fun z => (mem_unbar.mp z).2 rfl) (c.r.less fun a ha => (mem_unbar.mp ha).1))⟩
theorem comp_reads {mi : MI} {g : MG} {tt : MT} {te : ME} {js vs : List Nat} (hv : ∀ j ∈ js, j ∈ vs) {σ : L2.St} {H : Hp} {Q : VK} {K : PySem.W.Frag} (q : tr T K W (mComp mi g tt te vs) σ H Q) :
    tLc (trI T K W mi) (trG T K js g) (trT T K W0 tt) (tr T K W0 te) vs σ H Q := by
  obtain ⟨S, M, h, sr, hr, p⟩ := q
  refine ⟨S, M, h, sr, hr, p.bnd fun I h1 M1 H1 J e1 hr1 r1 p1 => fun D hD => ?_⟩
  split at p1
  · rename_i hz
    have nD : D ∉ M1.no := hr1.none_out hD
    have sr1 := sr.ext e1
    -- what is left to do, from the place i on
    let Rest : Nat → Nat → Hs → List P → Prop := fun m i h' acc => post T K (RV T K) M1 H1 (erAt T W σ) Q (bnd (compL g tt te (wipeS S vs) I m i h') fun ys h2 => ret (.p (.lst (acc ++ ys))) h2)
    refine ⟨fun i m H' => ∃ M' h' acc xs, i + m = I.len h1 ∧ acc.length ≤ i ∧ CompI T K M1 H1 D M' H' h' acc xs ∧ Rest m i h' acc,
      ⟨I.len h1, M1.bar D, h1, [], [], Nat.zero_add _, Nat.le_refl _, ⟨.bar hD, hr1.bar hD, List.mem_append_right _ (by simp), upd_same, hr1.none_out' hD, .nil⟩, by simpa [Rest] using p1⟩, ?_⟩
    rintro i m H2 ⟨M2, h2, acc, xs, hm, hacc, c2, p2⟩
    obtain ⟨q1, q2⟩ := r1 i M2 H2 h2 c2.ext c2.hr
    have p2 : post T K (RV T K) M1 H1 (erAt T W σ) Q (bnd (compL g tt te (wipeS S vs) I m i h2) fun ys h2 => ret (.p (.lst (acc ++ ys))) h2) := p2
    cases hat : I.at i h2 with
    | none => cases m <;> (simp only [compL, hat] at p2; exact p2.elim)
    | some o =>
      cases o with
      | none =>
        refine .inl ⟨q2 hat, ?_⟩
        have p3 : post T K (RV T K) M1 H1 (erAt T W σ) Q (ret (.p (.lst acc)) h2) := by
          cases m <;> simpa [compL, hat, bnd, ret] using p2
        obtain ⟨a1, a2, a3⟩ := c2.done hD nD
        exact p3.ret a1 a2 a3
      | some d =>
        cases m with
        | zero => simp only [compL, hat] at p2; exact p2.elim
        | succ m =>
          refine .inr ?_
          obtain ⟨go, yl⟩ := q1 d hat
          refine ⟨go, fun H' => ∃ M' h' acc xs, acc.length ≤ i + 1 ∧ CompI T K M1 H1 D M' H' h' acc xs ∧ Rest m (i + 1) h' acc, ?_, fun x H' hy => ?_⟩
          · rintro H' ⟨M', h', ac, xs', a0, a1, a2⟩
            exact ⟨m, Nat.lt_succ_self _, M', h', ac, xs', by omega, a0, a1, a2⟩
          · obtain ⟨e3, hr3, rx⟩ := yl x H' hy
            simp only [compL, hat] at p2
            cases eg : g d (wipeS S vs) with
            | none => rw [eg] at p2; exact p2.elim
            | some S3 =>
              rw [eg] at p2
              dsimp only at p2
              have c3 := c2.step e3 hr3
              have srw : SR T K M2 H' (wipeS S vs) (L2.wipe σ vs) := (sr1.ext c3.ext).wipe vs
              refine ⟨wipeS S vs, M2, h2, d, S3, srw, hr3, rx, eg, fun σ3 sr3 w3 => ?_⟩
              refine ⟨by rw [w3 vs hv, wipe_wipe], S3, M2, h2, sr3, hr3, ?_⟩
              rw [bnd_bnd] at p2
              refine post_bndE p2 fun b h3 M3 H3 x3 e4 hr4 r4 p5 => ?_
              cases (r4 : b = x3)
              have c4 := c3.step e4 hr4
              cases b with
              | false => exact ⟨M3, h3, acc, xs, by omega, c4, by simpa using p5⟩
              | true =>
                refine ⟨S3, M3, h3, sr3.ext e4, hr4, ?_⟩
                simp only [if_true] at p5
                rw [bnd_bnd] at p5
                refine post_bndE p5 fun v h4 M4 H4 y e5 hr5 r5 p7 => ?_
                have c5 := c4.step e5 hr5
                cases r5 with
                | ref _ => exact p7.elim
                | p ry =>
                  rename_i yd
                  have lx : xs.length ≤ i := by rw [← c5.r.length]; exact hacc
                  refine ⟨xs, c5.at', lt_line (by omega), M4, h4, acc ++ [yd], xs ++ [y], by simp; omega, c5.push hD ry, ?_⟩
                  have p7 : post T K (RV T K) M1 H1 (erAt T W σ) Q (bnd (bnd (compL g tt te (wipeS S vs) I m (i + 1) h4) fun ys h3 => ret (yd :: ys) h3) fun ys h2 => ret (.p (.lst (acc ++ ys))) h2) := p7
                  rw [bnd_bnd] at p7
                  have e : (fun (ys : List P) (h3 : Hs) => ret (Vl.p (.lst (acc ++ yd :: ys))) h3) = fun ys h3 => ret (Vl.p (.lst ((acc ++ [yd]) ++ ys))) h3 := by
                    funext ys h3
                    rw [List.append_assoc]
                    rfl
                  show post T K (RV T K) M1 H1 (erAt T W σ) Q (bnd (compL g tt te (wipeS S vs) I m (i + 1) h4) fun ys h2 => ret (.p (.lst ((acc ++ [yd]) ++ ys))) h2)
                  rw [← e]
                  exact p7
  · exact p1.elim
/-- [e for x in it if ..] -/
theorem sim_lc {elt tg iter : Expr} {ifs : List Expr} {scope : Scope} (own : List (Str × Nat)) {pos : Pos} {mi : MI} {js : List Nat} {g : MG} {tt : MT} {te : ME} (hc : X.calm = true) (hN : X.N.Nodup) (hi : SimI T X W tg iter mi) (ok : BlkOk X.N X.env.scope scope own)
    (hg : ∀ (s : Shared) (H : Hp) (C : Addr) (cl : List (Str × Addr)) (fp : List Addr), SimG T (X.blk s H scope (compEnvC scope cl C X.env) fp) tg js g)
    (ht : ∀ (s : Shared) (H : Hp) (C : Addr) (cl : List (Str × Addr)) (fp : List Addr), SimTs T (X.blk s H scope (compEnvC scope cl C X.env) fp) W0 ifs tt)
    (he : ∀ (s : Shared) (H : Hp) (C : Addr) (cl : List (Str × Addr)) (fp : List Addr), SimE T (X.blk s H scope (compEnvC scope cl C X.env) fp) W0 elt te) (hv : ∀ j ∈ js, j ∈ own.map (·.2) := by decide)
    (hs : ∀ x, foldedSetIterable iter X.env x = pure x := by intro _; rfl) : SimE T X W (.ListComp elt [⟨tg, iter, ifs, 0⟩] scope pos) (mComp mi g tt te (own.map (·.2))) :=
  PE.weak (pe_lc hc hN hi ok hg ht he hs) fun _ _ _ q => comp_reads hv q
theorem sim_setLc (i : Nat) {y : Str} {py : Pos} {elt tg iter : Expr} {ifs : List Expr} {scope : Scope} (own : List (Str × Nat)) {pos spos : Pos} {mi : MI} {js : List Nat} {g : MG} {tt : MT} {te : ME} (hc : X.calm = true) (hN : X.N.Nodup) (hi : SimI T X W tg iter mi) (ok : BlkOk X.N X.env.scope scope own)
    (hsw : swapsWith (.ListComp elt [⟨tg, iter, ifs, 0⟩] scope pos) (some (.Name y py)) spos.line X.env = pure true)
    (hg : ∀ (s : Shared) (H : Hp) (C : Addr) (cl : List (Str × Addr)) (fp : List Addr), SimG T (X.blk s H scope (compEnvC scope cl C X.env) fp) tg js g)
    (ht : ∀ (s : Shared) (H : Hp) (C : Addr) (cl : List (Str × Addr)) (fp : List Addr), SimTs T (X.blk s H scope (compEnvC scope cl C X.env) fp) W0 ifs tt)
    (he : ∀ (s : Shared) (H : Hp) (C : Addr) (cl : List (Str × Addr)) (fp : List Addr), SimE T (X.blk s H scope (compEnvC scope cl C X.env) fp) W0 elt te) (hv : ∀ j ∈ js, j ∈ own.map (·.2) := by decide)
    (hy : X.N[i]? = some y := by rfl) (hyl : X.env.scope.names.lookup y = some .local := by rfl)
    (hs : ∀ x, foldedSetIterable iter X.env x = pure x := by intro _; rfl) : SimS T X W (.Assign [.Name y py] (.ListComp elt [⟨tg, iter, ifs, 0⟩] scope pos) spos) (sSet i (mComp mi g tt te (own.map (·.2)))) := by
  refine PS.weak (ps_setLc (wi := trI T X.K W mi) (g := trG T X.K js g) (tt := trT T X.K W0 tt) (te := tr T X.K W0 te) hc hN hy hyl hsw hi ok hg ht he hs) fun D σ H ⟨S, M, h, sr, hr, p⟩ => ?_
  refine comp_reads hv ⟨S, M, h, sr, hr, p.bnd sr fun v h1 M1 H1 x e1 sr1 hr1 r1 p1 => ?_⟩
  exact p1 M1 H1 _ .refl hr1 (sr1.set r1 i)
end
end EV
end T5
section T6
set_option Elab.async false
set_option linter.all false
set_option maxRecDepth 100000
namespace EV
open PySem PySem.Spec PyProof.Rows L2

/-! ### a def: its body run over the slots; what it made is forgotten, but what it hands back -/
def backV (fresh : Bool) (L : Nat) (v : Vl) (h' : Hs) : Rs Vl := match v with
  | .p d => some (.ok (.p d), h'.take L)
  | .ref n => if n < L then some (.ok (.ref n), h'.take L) else match h'[n]? with
    | some (.lst ds) => if fresh = true then some (.ok (.ref L), h'.take L ++ [.lst ds]) else some (.ok (.p (.lst ds)), h'.take L)
    | some (.ins c fs) => if fresh = true then some (.ok (.ref L), h'.take L ++ [.ins c fs]) else some (.ok (.p (.ins c fs)), h'.take L)
    | _ => none
def fnRun (np n : Nat) (fresh : Bool) (b : MS) (args : List Vl) (h : Hs) : Rs Vl :=
  if args.length = np then match b (args.map some ++ List.replicate (n - np) none) h with
    | none => none
    | some (.error c, _, h') => some (.error c, h'.take h.length)
    | some (.ok .nx, _, h') => some (.ok (.p .non), h'.take h.length)
    | some (.ok (.rt v), _, h') => backV fresh h.length v h'
    | some (.ok .bk, _, _) => none
    | some (.ok .ct, _, _) => none
  else none

section
variable {T : Tb} {K : PySem.W.Frag}
/-- behind a call: only what stood is tracked -/
theorem Ext.cut {M M' : Trk} {H H' : Hp} (e : Ext M H M' H') : Ext M H M H' := by
  exact ⟨⟨[], by simp⟩, fun _ h => h, fun a h1 h2 => absurd h1 h2, e.keep, e.live⟩
theorem Ext.tk_take {M M' : Trk} {H H' : Hp} (e : Ext M H M' H') : M'.tk.take M.tk.length = M.tk := by
  obtain ⟨m, e1, _⟩ := e.pre
  rw [e1, List.take_left]
theorem HR.cut {M M' : Trk} {H H' : Hp} {h h' : Hs} (e : Ext M H M' H') (hr0 : HR T K M H h) (hr : HR T K M' H' h') : HR T K M H' (h'.take h.length) := by
  have hle : h.length ≤ h'.length := by
    rw [← hr0.len, ← hr.len]
    obtain ⟨m, e1, _⟩ := e.pre
    rw [e1, List.length_append]
    exact Nat.le_add_right _ _
  refine ⟨by rw [hr0.len, List.length_take]; omega, hr0.nd, fun a ha => hr.pos a (e.nos a ha), fun n a p e1 e2 => ?_⟩
  have hn : n < h.length := by rw [← hr0.len]; exact (List.getElem?_eq_some_iff.mp e1).1
  rw [List.getElem?_take_of_lt hn] at e2
  exact (hr.at' n a p (e.get e1) e2).less fun a ha => e.nos a ha
theorem RV.cut {M M' : Trk} {H H' : Hp} {d : P} {x : V} (e : Ext M H M' H') (r : RV T K M' H' (.p d) x) : RV T K M H' (.p d) x := by
  cases r with | p r => exact .p (r.less fun a ha => e.nos a ha)
/-- a tracked object is handed back: data from now on -/
theorem froz {M M' : Trk} {H H' : Hp} {a : Addr} {d : P} (e : Ext M H M' H') (c : Cell T K M' H' a d) (n : a ∉ M.no) : Rp T K M H' d (.ref a) := by
  cases c with
  | lst q r => exact .lst q n (r.less fun a ha => e.nos a ha)
  | ins q e1 r => exact .ins q n e1 (r.less fun a ha => e.nos a ha)
theorem newer {M M' : Trk} {H H' : Hp} {h : Hs} (e : Ext M H M' H') (hr : HR T K M H h) {n : Nat} {a : Addr} (hn : ¬ n < h.length) (ea : M'.tk[n]? = some a) : H a = none := by
  obtain ⟨m, e1, g⟩ := e.pre
  rw [e1, List.getElem?_append_right (by rw [hr.len]; exact Nat.le_of_not_lt hn)] at ea
  exact g a (List.mem_of_getElem? ea)
theorem post_back {M M' : Trk} {H H' : Hp} {h h' : Hs} {Er : Nat → Hp → Prop} {Q : VK} {fresh : Bool} {v : Vl} {x : V} (e : Ext M H M' H') (hr0 : HR T K M H h) (hr : HR T K M' H' h') (r : RV T K M' H' v x)
    (p : post T K (RV T K) M H Er Q (backV fresh h.length v h')) : Q x H' := by
  unfold backV at p
  split at p
  · exact p M H' x e.cut (HR.cut e hr0 hr) (r.cut e)
  · rename_i n
    cases r with
    | ref ea =>
      rename_i a
      split at p
      · rename_i hn
        refine p M H' _ e.cut (HR.cut e hr0 hr) (.ref ?_)
        obtain ⟨m, e1, _⟩ := e.pre
        rw [e1, List.getElem?_append_left (by rw [hr0.len]; exact hn)] at ea
        exact ea
      · rename_i hn
        have hna : H a = none := newer e hr0 hn ea
        have no : a ∉ M.no := hr0.none_out hna
        obtain ⟨d, hd, c⟩ := hr.got ea
        rw [hd] at p
        -- the fresh one, tracked on
        have fr : ∀ {d : P}, Cell T K M' H' a d → Ext M H (M.add a) H' ∧ HR T K (M.add a) H' (h'.take h.length ++ [d]) ∧ RV T K (M.add a) H' (.ref h.length) (.ref a) := fun {d} c => by
          have hc := HR.cut e hr0 hr
          have hin : ∀ b ∈ (M.add a).no, b ∈ M'.no := fun b hb => by
            rcases List.mem_append.mp hb with z | z
            · exact e.nos b z
            · have z' : b = a := by simpa using z
              rw [z']; exact M'.sub a (List.mem_of_getElem? ea)
          have hlen : (h'.take h.length).length = h.length := by rw [← hc.len, hr0.len]
          refine ⟨⟨⟨[a], rfl, fun b hb => by rw [show b = a by simpa using hb]; exact hna⟩, fun b hb => List.mem_append_left _ hb, fun b h1 h2 => ?_, e.keep, e.live⟩,
            ⟨by simp [hlen, hr0.len], List.nodup_append.mpr ⟨hr0.nd, by simp, fun b h1 b' h2 z => ?_⟩, fun b hb => hr.pos b (hin b hb), fun k b q e1 e2 => ?_⟩, .ref ?_⟩
          · rcases List.mem_append.mp h1 with z | z
            · exact absurd z h2
            · rw [show b = a by simpa using z]; exact hna
          · have z' : b' = a := by simpa using h2
            exact no (M.sub a (by rw [← z', ← z]; exact h1))
          · have e1 : (M.tk ++ [a])[k]? = some b := e1
            by_cases hk : k < M.tk.length
            · rw [List.getElem?_append_left hk] at e1
              rw [List.getElem?_append_left (by rw [hlen, ← hr0.len]; exact hk)] at e2
              rw [List.getElem?_take_of_lt (by rw [← hr0.len]; exact hk)] at e2
              exact (hr.at' k b q (e.get e1) e2).less hin
            · rw [List.getElem?_append_right (Nat.le_of_not_lt hk)] at e1
              rw [List.getElem?_append_right (by rw [hlen, ← hr0.len]; exact Nat.le_of_not_lt hk), hlen, ← hr0.len] at e2
              cases hz : k - M.tk.length with
              | zero =>
                rw [hz] at e1 e2
                simp at e1 e2
                subst e1 e2
                exact c.less hin
              | succ m => rw [hz] at e1; simp at e1
          · show (M.tk ++ [a])[h.length]? = some a
            rw [← hr0.len, List.getElem?_append_right (Nat.le_refl _), Nat.sub_self]; rfl
        cases c with
        | lst q r =>
          dsimp only at p
          split at p
          · obtain ⟨a1, a2, a3⟩ := fr (.lst q r)
            exact p _ H' _ a1 a2 a3
          · exact p M H' _ e.cut (HR.cut e hr0 hr) (.p (froz e (.lst q r) no))
        | ins q e1 r =>
          dsimp only at p
          split at p
          · obtain ⟨a1, a2, a3⟩ := fr (.ins q e1 r)
            exact p _ H' _ a1 a2 a3
          · exact p M H' _ e.cut (HR.cut e hr0 hr) (.p (froz e (.ins q e1 r) no))
theorem sr_start {M : Trk} {H : Hp} : ∀ {args : List Vl} {vs : List V} (k : Nat), RVA T K M H args vs → SR T K M H (args.map some ++ List.replicate k none) (vs.map some ++ List.replicate k none) := fun {args vs} k r => by
  refine ⟨by simp [r.length], fun i v h => ?_⟩
  by_cases hi : i < args.length
  · rw [List.getElem?_append_left (by simpa using hi), List.getElem?_map] at h
    cases q : args[i]? with
    | none => rw [q] at h; cases h
    | some u =>
      rw [q] at h
      cases h
      have : ∀ {args : List Vl} {vs : List V} {i : Nat}, RVA T K M H args vs → args[i]? = some v → ∃ x, vs[i]? = some x ∧ RV T K M H v x := by
        intro args vs i r q
        induction r generalizing i with
        | nil => simp at q
        | cons h r ih =>
          cases i with
          | zero => simp at q; subst q; exact ⟨_, rfl, h⟩
          | succ j => exact ih (by simpa using q)
      obtain ⟨x, hx, rx⟩ := this r q
      refine ⟨x, ?_, rx⟩
      rw [List.getElem?_append_left (by rw [List.length_map, ← r.length]; exact hi), List.getElem?_map, hx]; rfl
  · rw [List.getElem?_append_right (by simpa using Nat.le_of_not_lt hi)] at h
    have h := List.mem_of_getElem? h
    exact absurd (List.eq_of_mem_replicate h) (by simp)
end
section
variable {P : Program} {w : World} {K : PySem.W.Frag} {mg : Str → Option Value} {base : Heap} {T : Tb}
/-- THE RULE for a def -/
theorem fn_sim {x qual : Str} {st : Stmt} {f : Addr} {fd : FuncData} {N ps : List Str} {k : Nat} {b : MS} {fresh : Bool} (F : Fun K x qual st f fd) (S : FnScope N ps (defScope st)) (hb : Binds K fd ps [])
    (hbody : ∀ (cdv : Value) (A : Around) (outer : List Env) (s : Shared) (H : Hp) (E : XK), Room k (A.deeper (envOfC qual (defScope st) s.heap.objs.size f cdv)) →
      PassesOwn (model P w) (A.deeper (envOfC qual (defScope st) s.heap.objs.size f cdv)) (envOfC qual (defScope st) s.heap.objs.size f cdv) (cxOf (L2.CX P w) P w K mg base N qual (defScope st) f cdv A outer s H E).xe →
      Takes (cxOf (L2.CX P w) P w K mg base N qual (defScope st) f cdv A outer s H E) (fun cls d _ H => E cls d H) →
      SimSs T (cxOf (L2.CX P w) P w K mg base N qual (defScope st) f cdv A outer s H E) (fun cls d _ H => E cls d H) (defBody st) b) :
    FnR P w K mg base (L2.CX P w) (k + 1) f (spF T K (fnRun ps.length N.length fresh b)) := by
  have G : FnOk P w K mg base (L2.CX P w) (k + 1) f fd ps (fun vs H Q E => vs.length = ps.length ∧ spF T K (fnRun ps.length N.length fresh b) vs H Q E) := by
    refine F.okX S (fun vs H Q E h => h.1) (fun cdv A outer s H vs Q E hr h => ?_)
    obtain ⟨hl, args, M, h, ra, hR, p⟩ := h
    refine ⟨_, hbody cdv A outer s H E hr (passes_of (X := cxOf (L2.CX P w) P w K mg base N qual (defScope st) f cdv A outer s H E) rfl) (takes_of rfl rfl rfl rfl), ?_⟩
    have ha : args.length = ps.length := by rw [ra.length]; exact hl
    refine ⟨args.map some ++ List.replicate (N.length - ps.length) none, M, h, ?_, hR, ?_⟩
    · have q := sr_start (T := T) (K := K) (N.length - ps.length) ra
      unfold L2.start
      rw [hl]
      exact q
    · unfold fnRun at p
      rw [if_pos ha] at p
      match e : b (args.map some ++ List.replicate (N.length - ps.length) none) h, p with
      | some (.error c, S', h'), p => exact fun M' H' σ' e' hr' _ => p M H' e'.cut (HR.cut e' hR hr')
      | some (.ok .nx, S', h'), p => exact fun M' H' σ' e' hr' _ => p M H' _ e'.cut (HR.cut e' hR hr') (.p .non)
      | some (.ok (.rt v), S', h'), p => exact fun M' H' x e' hr' r' => post_back e' hR hr' r' p
  have R := G.raw hb .nil
  refine R.imp fun vs H Q E h => ?_
  obtain ⟨args, M, h', ra, hR, p⟩ := h
  rw [List.append_nil]
  refine ⟨?_, args, M, h', ra, hR, p⟩
  rw [← ra.length]
  unfold fnRun at p
  split at p
  · assumption
  · exact p.elim
end
end EV
end T6
section T7
set_option Elab.async false
set_option linter.all false
set_option maxRecDepth 100000
namespace EV
open PySem PySem.Spec PyProof.Rows L2

section
variable {T : Tb} {X : Cx} {W : WX}
/-! ### xs[i] = e -/
def wSub (o i v : Vl) (S : Sl) (h : Hs) : RS := match o, i, v with
  | .ref n, .p (.int k), .p d => match h[n]? with
    | some (.lst ds) => match ixN ds.length k with
      | some j => some (.ok .nx, S, h.set n (.lst (ds.set j d)))
      | none => none
    | _ => none
  | _, _, _ => none
def sSub (m mo mi : ME) : MS := fun S h => bndS (m S h) S fun v h1 => bndS (mo S h1) S fun o h2 => bndS (mi S h2) S fun i h3 => wSub o i v S h3
theorem sim_setSub {e o i : Expr} {m mo mi : ME} {pos pos' : Pos} (he : SimE T X W e m) (ho : SimE T X W o mo) (hi : SimE T X W i mi)
    (ha : ∀ v, assign (.Subscript o i pos') X.env v = (do
      let ov ← holding [v] (eval o X.env)
      let iv ← holding [v, ov] (eval i X.env)
      standAt pos'
      holding [v, ov, iv] (setItem ov iv v)
      release [v, ov, iv] []) := by intro _; rfl)
    (hs : swapsWithSole [.Subscript o i pos'] e pos.line X.env = pure false := by rfl) (hw : swappedStores [.Subscript o i pos'] e X.env = pure none := by rfl) : SimS T X W (.Assign [.Subscript o i pos'] e pos) (sSub m mo mi) := by
  refine PS.weak (ps_asg he (pg_sub ho hi set_list ha) hs hw) fun D σ H ⟨S, M, h, sr, hr, p⟩ => ⟨S, M, h, sr, hr, p.bnd sr fun v h1 M1 H1 x e1 sr1 hr1 r1 p1 => ?_⟩
  refine ⟨S, M1, h1, sr1, hr1, p1.bnd sr1 fun ov h2 M2 H2 y e2 sr2 hr2 r2 p2 => ?_⟩
  refine ⟨S, M2, h2, sr2, hr2, p2.bnd sr2 fun iv h3 M3 H3 z e3 sr3 hr3 r3 p3 => ?_⟩
  unfold wSub at p3
  split at p3
  · rename_i n k d
    have r2 := r2.ext e3
    have r1 := (r1.ext e2).ext e3
    cases r2 with
    | ref ea =>
      rename_i a
      obtain ⟨q, hq, c⟩ := hr3.got ea
      rw [hq] at p3
      cases c with
      | lst hx rx =>
        rename_i xs ds
        dsimp only at p3
        split at p3
        · rename_i j hj
          cases r3 with
          | p r3 =>
            cases r3
            cases r1 with
            | p r1 =>
              refine ⟨a, xs, k, j, rfl, rfl, hx, by rw [← rx.length]; exact hj, ?_⟩
              have ta : a ∈ M3.tk := List.mem_of_getElem? ea
              have w : Ext M3 H3 M3 (L2.upd H3 a (.lst (xs.set j x))) := .write ta
              exact p3 M3 _ σ w (hr3.write ea (.lst upd_same ((RpA.set r1 j rx).ext w))) (sr3.ext w)
        · exact p3.elim
      | ins _ _ _ => exact p3.elim
  · exact p3.elim

/-! ### methods of built-in types -/
def isLstV (v : Vl) (h : Hs) : Bool := match v with
  | .p (.lst _) => true
  | .p (.scr _) => true
  | .ref n => match h[n]? with
    | some (.lst _) => true
    | _ => false
  | _ => false
def isStrV (v : Vl) : Bool := match v with
  | .p (.str _) => true
  | _ => false
theorem ty_lst {M : Trk} {H : Hp} {h : Hs} {v : Vl} {x : V} (hr : HR T X.K M H h) (r : RV T X.K M H v x) (e : isLstV v h = true) : tyV X.K "list" x H := by
  unfold isLstV at e
  split at e
  · cases r with | p r => cases r with | lst a b c => exact .inl ⟨rfl, _, .of a⟩
  · cases r with | p r => cases r with | scr a b => exact .inl ⟨rfl, _, a.sqL⟩
  · cases r with
    | ref ea =>
      obtain ⟨q, hq, c⟩ := hr.got ea
      rw [hq] at e
      cases c with
      | lst a b => exact .inl ⟨rfl, _, .of a⟩
      | ins _ _ _ => cases e
  · cases e
theorem ty_str {M : Trk} {H : Hp} {v : Vl} {x : V} (r : RV T X.K M H v x) (e : isStrV v = true) : tyV X.K "str" x H := by
  unfold isStrV at e
  split at e
  · cases r with | p r => cases r; rfl
  · cases e
def MtS (T : Tb) (K : PySem.W.Frag) (f : Vl → List Vl → Hs → Rs Vl) (r : V → List V → Hp → VK → Prop) : Prop :=
  ∀ M H h v x vs xs Er Q, HR T K M H h → RV T K M H v x → RVA T K M H vs xs → post T K (RV T K) M H Er Q (f v vs h) → r x xs H Q
def mMethL (f : Vl → List Vl → Hs → Rs Vl) (o : ME) (a : MA) : ME := fun S h => bnd (o S h) fun v h1 => if isLstV v h1 = true then bnd (a S h1) fun vs h2 => f v vs h2 else none
def mMethS (f : Vl → List Vl → Hs → Rs Vl) (o : ME) (a : MA) : ME := fun S h => bnd (o S h) fun v h1 => if isStrV v = true then bnd (a S h1) fun vs h2 => f v vs h2 else none
section
variable {o e : Expr} {es : List Expr} {mo : ME} {ma : MA} {name : Str} {apos cpos : Pos} {id : String} {r : V → List V → Hp → VK → Prop} {f : Vl → List Vl → Hs → Rs Vl}
theorem sim_methL (slot : Slot "list" name id) (hty : typeOf (.builtin id) = pure (.type "method_descriptor")) (hm : MtR X id r) (hf : MtS T X.K f r) (ho : SimE T X W o mo) (ha : SimA T X W (e :: es) ma)
    (hbase : attributeBase o name X.env (eval o X.env) = eval o X.env := by rfl)
    (hfew : ((backTo cpos (starEach (e :: es) X.env)).all (fun x => !x.1) && (backToKw cpos (keywordEach [] X.env)).all (fun x => x.1.isSome)
      && decide ((e :: es).length + ([] : List Keyword).length + (if ([] : List Keyword).isEmpty then 0 else 1) < 30)) = true := by rfl)
    (hline : (apos.endLine == cpos.line) = true := by rfl) (hs : starEach (e :: es) X.env = (false, eval e X.env) :: starEach es X.env := by rfl) (hpl : (backTo cpos (starEach es X.env)).any (·.1) = false := by rfl) :
    SimE T X W (.Call (.Attribute o name apos) (e :: es) [] cpos) (mMethL f mo ma) := by
  refine PE.weak (pe_bm PySem.F.plainAttrs_list slot hty hm ho ha hbase hfew hline hs hpl) fun σ H Q ⟨S, M, h, sr, hr, p⟩ => tr_then sr hr p fun v h1 M1 H1 x e1 sr1 hr1 r1 p1 => ?_
  split at p1
  · rename_i ht
    exact ⟨ty_lst hr1 r1 ht, trA_then sr1 hr1 p1 fun vs h2 M2 H2 xs e2 sr2 hr2 r2 p2 => hf M2 H2 h2 v x vs xs _ Q hr2 (r1.ext e2) r2 p2⟩
  · exact p1.elim
theorem sim_methL0 (slot : Slot "list" name id) (hty : typeOf (.builtin id) = pure (.type "method_descriptor")) (hm : MtR X id r) (hf : MtS T X.K f r) (ho : SimE T X W o mo)
    (hbase : attributeBase o name X.env (eval o X.env) = eval o X.env := by rfl) (hline : (apos.endLine == cpos.line) = true := by rfl) : SimE T X W (.Call (.Attribute o name apos) [] [] cpos) (mMethL f mo aNil) := by
  refine PE.weak (pe_bm0 PySem.F.plainAttrs_list slot hty hm ho hbase hline) fun σ H Q ⟨S, M, h, sr, hr, p⟩ => tr_then sr hr p fun v h1 M1 H1 x e1 sr1 hr1 r1 p1 => ?_
  split at p1
  · rename_i ht
    exact ⟨ty_lst hr1 r1 ht, hf M1 H1 h1 v x [] [] _ Q hr1 r1 .nil p1⟩
  · exact p1.elim
theorem sim_methS (slot : Slot "str" name id) (hty : typeOf (.builtin id) = pure (.type "method_descriptor")) (hm : MtR X id r) (hf : MtS T X.K f r) (ho : SimE T X W o mo) (ha : SimA T X W (e :: es) ma)
    (hbase : attributeBase o name X.env (eval o X.env) = eval o X.env := by rfl)
    (hfew : ((backTo cpos (starEach (e :: es) X.env)).all (fun x => !x.1) && (backToKw cpos (keywordEach [] X.env)).all (fun x => x.1.isSome)
      && decide ((e :: es).length + ([] : List Keyword).length + (if ([] : List Keyword).isEmpty then 0 else 1) < 30)) = true := by rfl)
    (hline : (apos.endLine == cpos.line) = true := by rfl) (hs : starEach (e :: es) X.env = (false, eval e X.env) :: starEach es X.env := by rfl) (hpl : (backTo cpos (starEach es X.env)).any (·.1) = false := by rfl) :
    SimE T X W (.Call (.Attribute o name apos) (e :: es) [] cpos) (mMethS f mo ma) := by
  refine PE.weak (pe_bm PySem.F.plainAttrs_str slot hty hm ho ha hbase hfew hline hs hpl) fun σ H Q ⟨S, M, h, sr, hr, p⟩ => tr_then sr hr p fun v h1 M1 H1 x e1 sr1 hr1 r1 p1 => ?_
  split at p1
  · rename_i ht
    exact ⟨ty_str r1 ht, trA_then sr1 hr1 p1 fun vs h2 M2 H2 xs e2 sr2 hr2 r2 p2 => hf M2 H2 h2 v x vs xs _ Q hr2 (r1.ext e2) r2 p2⟩
  · exact p1.elim
end
/-! append, extend, pop -/
def fAppend (v : Vl) (vs : List Vl) (h : Hs) : Rs Vl := match v, vs with
  | .ref n, [.p d] => match h[n]? with
    | some (.lst ds) => if ds.length < 16777216 then ret (.p .non) (h.set n (.lst (ds ++ [d]))) else none
    | _ => none
  | _, _ => none
theorem s_append : MtS T X.K fAppend rAppend := by
  intro M H h v x vs xs Er Q hr rx rvs p
  unfold fAppend at p
  split at p
  · cases rx with
    | ref ea =>
      obtain ⟨q, hq, c⟩ := hr.got ea
      rw [hq] at p
      cases c with
      | lst hx ra =>
        dsimp only at p
        split at p
        · rename_i hz
          cases rvs with
          | cons r1 r2 =>
            cases r2
            cases r1 with
            | p r1 =>
              refine ⟨_, _, _, rfl, rfl, hx, by rw [← ra.length]; exact lt_line hz, ?_⟩
              have w := fun (o : HO) => Ext.write (M := M) (H := H) (o := o) (List.mem_of_getElem? ea)
              exact p M _ _ (w _) (hr.write ea (.lst upd_same ((ra.append (.cons r1 .nil)).ext (w _)))) (.p .non)
        · exact p.elim
      | ins _ _ _ => exact p.elim
  · exact p.elim
def fExtend (v : Vl) (vs : List Vl) (h : Hs) : Rs Vl := match v, vs with
  | .ref n, [.p (.lst es)] => match h[n]? with
    | some (.lst ds) => if ds.length + es.length ≤ 16777216 then ret (.p .non) (h.set n (.lst (ds ++ es))) else none
    | _ => none
  | _, _ => none
theorem s_extend : MtS T X.K fExtend rExtend := by
  intro M H h v x vs xs Er Q hr rx rvs p
  unfold fExtend at p
  split at p
  · cases rx with
    | ref ea =>
      obtain ⟨q, hq, c⟩ := hr.got ea
      rw [hq] at p
      cases c with
      | lst hx ra =>
        dsimp only at p
        split at p
        · rename_i hz
          cases rvs with
          | cons r1 r2 =>
            cases r2
            cases r1 with
            | p r1 =>
              cases r1 with
              | lst hb nb rb =>
                refine ⟨_, _, _, _, rfl, rfl, hx, hb, by rw [← ra.length, ← rb.length]; exact le_line hz, ?_⟩
                have w := fun (o : HO) => Ext.write (M := M) (H := H) (o := o) (List.mem_of_getElem? ea)
                exact p M _ _ (w _) (hr.write ea (.lst upd_same ((ra.append rb).ext (w _)))) (.p .non)
        · exact p.elim
      | ins _ _ _ => exact p.elim
  · exact p.elim
def fPopAt (v : Vl) (vs : List Vl) (h : Hs) : Rs Vl := match v, vs with
  | .ref n, [.p (.int i)] => match h[n]? with
    | some (.lst ds) => if 0 ≤ i ∧ i < 2 ^ 63 then match ds[i.toNat]? with
        | some d => ret (.p d) (h.set n (.lst (ds.eraseIdx i.toNat)))
        | none => none
      else none
    | _ => none
  | _, _ => none
theorem s_popAt : MtS T X.K fPopAt rPopAt := by
  intro M H h v x vs xs Er Q hr rx rvs p
  unfold fPopAt at p
  split at p
  · cases rx with
    | ref ea =>
      obtain ⟨q, hq, c⟩ := hr.got ea
      rw [hq] at p
      cases c with
      | lst hx ra =>
        dsimp only at p
        split at p
        · rename_i hz
          split at p
          · rename_i d hd
            cases rvs with
            | cons r1 r2 =>
              cases r2
              cases r1 with
              | p r1 =>
                cases r1
                obtain ⟨u, hu, ru⟩ := ra.get hd
                have hlt := (List.getElem?_eq_some_iff.mp hu).1
                refine ⟨_, _, _, _, u, rfl, rfl, hx, by omega, hz.2, ?_, hu, ?_⟩
                · exact (ixN_seq (by unfold ixN; rw [if_pos hz.1, if_pos (by omega)])).1
                · have w := fun (o : HO) => Ext.write (M := M) (H := H) (o := o) (List.mem_of_getElem? ea)
                  exact p M _ _ (w _) (hr.write ea (.lst upd_same ((ra.erase _).ext (w _)))) (.p (ru.ext (w _)))
          · exact p.elim
        · exact p.elim
      | ins _ _ _ => exact p.elim
  · exact p.elim
def fPop (v : Vl) (vs : List Vl) (h : Hs) : Rs Vl := match v, vs with
  | .ref n, [] => match h[n]? with
    | some (.lst ds) => match ds[ds.length - 1]? with
      | some d => ret (.p d) (h.set n (.lst ds.dropLast))
      | none => none
    | _ => none
  | _, _ => none
theorem RpA.dropLast {K : PySem.W.Frag} {M : Trk} {H : Hp} {ds : List P} {vs : List V} (r : RpA T K M H ds vs) : RpA T K M H ds.dropLast vs.dropLast := by
  rw [List.dropLast_eq_take, List.dropLast_eq_take, r.length]
  exact r.take _
theorem s_pop : MtS T X.K fPop rPop := by
  intro M H h v x vs xs Er Q hr rx rvs p
  unfold fPop at p
  split at p
  · cases rx with
    | ref ea =>
      obtain ⟨q, hq, c⟩ := hr.got ea
      rw [hq] at p
      cases c with
      | lst hx ra =>
        dsimp only at p
        split at p
        · rename_i d hd
          cases rvs
          obtain ⟨u, hu, ru⟩ := ra.get hd
          rw [ra.length] at hu
          have w := fun (o : HO) => Ext.write (M := M) (H := H) (o := o) (List.mem_of_getElem? ea)
          exact ⟨_, _, u, rfl, rfl, hx, hu, p M _ _ (w _) (hr.write ea (.lst upd_same (ra.dropLast.ext (w _)))) (.p (ru.ext (w _)))⟩
        · exact p.elim
      | ins _ _ _ => exact p.elim
  · exact p.elim
section
variable {o e : Expr} {mo : ME} {ma : MA} {apos cpos : Pos}
theorem sim_append (ho : SimE T X W o mo) (ha : SimA T X W [e] ma)
    (hbase : attributeBase o "append" X.env (eval o X.env) = eval o X.env := by rfl)
    (hfew : ((backTo cpos (starEach [e] X.env)).all (fun x => !x.1) && (backToKw cpos (keywordEach [] X.env)).all (fun x => x.1.isSome)
      && decide ([e].length + ([] : List Keyword).length + (if ([] : List Keyword).isEmpty then 0 else 1) < 30)) = true := by rfl)
    (hline : (apos.endLine == cpos.line) = true := by rfl) (hs : starEach [e] X.env = (false, eval e X.env) :: starEach [] X.env := by rfl) (hpl : (backTo cpos (starEach [] X.env)).any (·.1) = false := by rfl) :
    SimE T X W (.Call (.Attribute o "append" apos) [e] [] cpos) (mMethL fAppend mo ma) := sim_methL PySem.F.slot_list_append PySem.F.type_list_append mt_append s_append ho ha hbase hfew hline hs hpl
theorem sim_extend (ho : SimE T X W o mo) (ha : SimA T X W [e] ma)
    (hbase : attributeBase o "extend" X.env (eval o X.env) = eval o X.env := by rfl)
    (hfew : ((backTo cpos (starEach [e] X.env)).all (fun x => !x.1) && (backToKw cpos (keywordEach [] X.env)).all (fun x => x.1.isSome)
      && decide ([e].length + ([] : List Keyword).length + (if ([] : List Keyword).isEmpty then 0 else 1) < 30)) = true := by rfl)
    (hline : (apos.endLine == cpos.line) = true := by rfl) (hs : starEach [e] X.env = (false, eval e X.env) :: starEach [] X.env := by rfl) (hpl : (backTo cpos (starEach [] X.env)).any (·.1) = false := by rfl) :
    SimE T X W (.Call (.Attribute o "extend" apos) [e] [] cpos) (mMethL fExtend mo ma) := sim_methL PySem.F.slot_list_extend PySem.F.type_list_extend mt_extend s_extend ho ha hbase hfew hline hs hpl
theorem sim_popAt (ho : SimE T X W o mo) (ha : SimA T X W [e] ma)
    (hbase : attributeBase o "pop" X.env (eval o X.env) = eval o X.env := by rfl)
    (hfew : ((backTo cpos (starEach [e] X.env)).all (fun x => !x.1) && (backToKw cpos (keywordEach [] X.env)).all (fun x => x.1.isSome)
      && decide ([e].length + ([] : List Keyword).length + (if ([] : List Keyword).isEmpty then 0 else 1) < 30)) = true := by rfl)
    (hline : (apos.endLine == cpos.line) = true := by rfl) (hs : starEach [e] X.env = (false, eval e X.env) :: starEach [] X.env := by rfl) (hpl : (backTo cpos (starEach [] X.env)).any (·.1) = false := by rfl) :
    SimE T X W (.Call (.Attribute o "pop" apos) [e] [] cpos) (mMethL fPopAt mo ma) := sim_methL PySem.F.slot_list_pop PySem.F.type_list_pop mt_popAt s_popAt ho ha hbase hfew hline hs hpl
theorem sim_pop (ho : SimE T X W o mo)
    (hbase : attributeBase o "pop" X.env (eval o X.env) = eval o X.env := by rfl) (hline : (apos.endLine == cpos.line) = true := by rfl) :
    SimE T X W (.Call (.Attribute o "pop" apos) [] [] cpos) (mMethL fPop mo aNil) := sim_methL0 PySem.F.slot_list_pop PySem.F.type_list_pop mt_pop s_pop ho hbase hline
end
end
end EV
end T7
section T8
set_option Elab.async false
set_option linter.all false
set_option maxRecDepth 100000
namespace EV
open PySem PySem.Spec PyProof.Rows L2

section
variable {T : Tb} {X : Cx} {W : WX}
/-! max(a, b), min(a, b) -/
def kI2 (g : Int → Int → Int) (vs : List Vl) (h : Hs) : Rs Vl := match vs with
  | [.p (.int i), .p (.int j)] => pI (g i j) h
  | _ => none
theorem s_kI2 {g : Int → Int → Int} : OpN T X.K (kI2 g) (fun xs H Q => ∃ i j, xs = [.int i, .int j] ∧ Q (.int (g i j)) H) := by
  intro M H h vs xs Er Q hr r p
  unfold kI2 at p
  split at p
  · cases r with
    | cons r1 r =>
      cases r with
      | cons r2 r =>
        cases r
        cases r1 with
        | p r1 =>
          cases r2 with
          | p r2 =>
            cases r1
            cases r2
            exact ⟨_, _, rfl, p.ret .refl hr (.p (.int _))⟩
  · exact p.elim
abbrev kMax2 := kI2 fun i j => if j > i then j else i
abbrev kMin2 := kI2 fun i j => if j < i then j else i
section
variable {a b e : Expr} {m : MA} {p pos : Pos}
theorem sim_max2 (hc : X.calm = true) (hm : X.mg "max" = none) (ha : SimA T X W [a, b] m) (hg : Gl X "max" := by rfl) (he : starEach [a, b] X.env = (false, eval a X.env) :: starEach [b] X.env := by rfl) (hpl : (backTo pos (starEach [b] X.env)).any (·.1) = false := by rfl) : SimE T X W (.Call (.Name "max" p) [a, b] [] pos) (mAll kMax2 m) :=
  sim_callB (call_max2 hc) s_kI2 hg hm boot_max ha (he := he) (hpl := hpl)
theorem sim_min2 (hc : X.calm = true) (hm : X.mg "min" = none) (ha : SimA T X W [a, b] m) (hg : Gl X "min" := by rfl) (he : starEach [a, b] X.env = (false, eval a X.env) :: starEach [b] X.env := by rfl) (hpl : (backTo pos (starEach [b] X.env)).any (·.1) = false := by rfl) : SimE T X W (.Call (.Name "min" p) [a, b] [] pos) (mAll kMin2 m) :=
  sim_callB (call_min2 hc) s_kI2 hg hm boot_min ha (he := he) (hpl := hpl)
/-! list(x): data, or to be changed; tuple(x) -/
def kList (vs : List Vl) (h : Hs) : Rs Vl := match vs with
  | [v] => match seqV v h with
    | some ds => ret (.p (.lst ds)) h
    | none => none
  | _ => none
def kListT (vs : List Vl) (h : Hs) : Rs Vl := match vs with
  | [v] => match seqV v h with
    | some ds => ret (.ref h.length) (h ++ [.lst ds])
    | none => none
  | _ => none
theorem s_list : OpN T X.K kList (fun xs H Q => ∃ p ys, xs = [.ref p] ∧ (SqL X.K H p ys ∨ SqT X.K H p ys) ∧ ∀ l, H l = none → Q (.ref l) (upd H l (.lst ys))) := by
  intro M H h vs xs Er Q hr r p
  unfold kList at p
  split at p
  · split at p
    · rename_i ds q
      cases r with
      | cons r1 r =>
        cases r
        obtain ⟨a, ys, rfl, hs, ra⟩ := r1.seqV hr q
        exact ⟨a, ys, rfl, hs, fun l hl => p.ret (.fresh hl) (hr.fresh hl) (new_lst hr hl ra)⟩
    · exact p.elim
  · exact p.elim
theorem s_listT : OpN T X.K kListT (fun xs H Q => ∃ p ys, xs = [.ref p] ∧ (SqL X.K H p ys ∨ SqT X.K H p ys) ∧ ∀ l, H l = none → Q (.ref l) (upd H l (.lst ys))) := by
  intro M H h vs xs Er Q hr r p
  unfold kListT at p
  split at p
  · split at p
    · rename_i ds q
      cases r with
      | cons r1 r =>
        cases r
        obtain ⟨a, ys, rfl, hs, ra⟩ := r1.seqV hr q
        exact ⟨a, ys, rfl, hs, fun l hl => p.ret (.track hl) (trk_lst hr hl ra) (.ref (hr.newest l))⟩
    · exact p.elim
  · exact p.elim
theorem sim_list (hm : X.mg "list" = none) (ha : SimA T X W [e] m) (hg : Gl X "list" := by rfl) (he : starEach [e] X.env = (false, eval e X.env) :: starEach [] X.env := by rfl) : SimE T X W (.Call (.Name "list" p) [e] [] pos) (mAll kList m) :=
  sim_callTy call_list_of s_list hg hm boot_list ha (he := he) (hpl := rfl)
theorem sim_listT (hm : X.mg "list" = none) (ha : SimA T X W [e] m) (hg : Gl X "list" := by rfl) (he : starEach [e] X.env = (false, eval e X.env) :: starEach [] X.env := by rfl) : SimE T X W (.Call (.Name "list" p) [e] [] pos) (mAll kListT m) :=
  sim_callTy call_list_of s_listT hg hm boot_list ha (he := he) (hpl := rfl)
def lstV (v : Vl) (h : Hs) : Option (List P) := match v with
  | .p (.lst ds) => some ds
  | .p (.scr ds) => some ds
  | .ref n => match h[n]? with
    | some (.lst ds) => some ds
    | _ => none
  | _ => none
theorem RV.lstV {M : Trk} {H : Hp} {h : Hs} {v : Vl} {x : V} {ds : List P} (hr : HR T X.K M H h) (r : RV T X.K M H v x) (e : EV.lstV v h = some ds) : ∃ a xs, x = .ref a ∧ SqL X.K H a xs ∧ RpA T X.K M H ds xs := by
  unfold EV.lstV at e
  split at e
  · cases e
    cases r with | p r => cases r with | lst a b c => exact ⟨_, _, rfl, .of a, c⟩
  · cases e
    cases r with | p r => cases r with | scr a b => exact ⟨_, _, rfl, a.sqL, b⟩
  · cases r with
    | ref ea =>
      obtain ⟨q, hq, c⟩ := hr.got ea
      rw [hq] at e
      cases c with
      | lst a b => cases e; exact ⟨_, _, rfl, .of a, b⟩
      | ins _ _ _ => cases e
  · cases e
def kTuple (vs : List Vl) (h : Hs) : Rs Vl := match vs with
  | [.p (.tup ds)] => ret (.p (.tup ds)) h
  | [v] => match lstV v h with
    | some ds => ret (.p (.tup ds)) h
    | none => none
  | _ => none
theorem s_tuple : OpN T X.K kTuple (fun xs H Q => ∃ p ys, xs = [.ref p] ∧ ((SqL X.K H p ys ∧ ∀ l, H l = none → Q (.ref l) (upd H l (.tup ys))) ∨ (SqT X.K H p ys ∧ Q (.ref p) H))) := by
  intro M H h vs xs Er Q hr r p
  unfold kTuple at p
  split at p
  · cases r with
    | cons r1 r =>
      cases r
      cases r1 with
      | p r1 =>
        cases r1 with
        | tup h1 h2 => exact ⟨_, _, rfl, .inr ⟨h1.sqT, p.ret .refl hr (.p (.tup h1 h2))⟩⟩
  · split at p
    · rename_i ds q
      cases r with
      | cons r1 r =>
        cases r
        obtain ⟨a, ys, rfl, hs, ra⟩ := r1.lstV hr q
        exact ⟨a, ys, rfl, .inl ⟨hs, fun l hl => p.ret (.fresh hl) (hr.fresh hl) (new_tup hr hl ra)⟩⟩
    · exact p.elim
  · exact p.elim
theorem sim_tuple (hm : X.mg "tuple" = none) (ha : SimA T X W [e] m) (hg : Gl X "tuple" := by rfl) (he : starEach [e] X.env = (false, eval e X.env) :: starEach [] X.env := by rfl) : SimE T X W (.Call (.Name "tuple" p) [e] [] pos) (mAll kTuple m) :=
  sim_callTy call_tuple_of s_tuple hg hm boot_tuple ha (he := he) (hpl := rfl)
end

/-! ### while -/
def whileS (c : MT) (b : MS) : Nat → MS
  | 0, _, _ => none
  | n + 1, S, h => bndS (c S h) S fun k h1 => if k = true then match b S h1 with
      | some (.ok .nx, S2, h2) => whileS c b n S2 h2
      | some (.ok .ct, S2, h2) => whileS c b n S2 h2
      | some (.ok .bk, S2, h2) => some (.ok .nx, S2, h2)
      | r => r
    else some (.ok .nx, S, h1)
theorem sim_while (n : Nat) {c : Expr} {body : List Stmt} {mc : MT} {b : MS} {pos : Pos} (hp : PassesOwn (model X.prog X.w) X.A X.env X.xe) (hc : SimT T X W c mc) (hb : SimSs T X W body b) : SimS T X W (.While c body [] pos) (whileS mc b n) := by
  refine PS.weak (ps_while hp hc hb) fun D σ H ⟨S, M, h, sr, hr, p⟩ => ?_
  refine ⟨fun m σ' H' => ∃ S' M' h', SR T X.K M' H' S' σ' ∧ HR T X.K M' H' h' ∧ postS T X.K W M' H' D (whileS mc b m S' h'), ⟨n, S, M, h, sr, hr, p⟩, ?_⟩
  rintro m σ1 H1 ⟨S1, M1, h1, sr1, hr1, p1⟩
  cases m with
  | zero => exact p1.elim
  | succ m =>
    simp only [whileS] at p1
    refine ⟨S1, M1, h1, sr1, hr1, p1.bnd sr1 fun k h2 M2 H2 x e2 sr2 hr2 r2 p2 => ?_⟩
    cases (r2 : k = x)
    cases k with
    | false => exact p2 M2 H2 σ1 .refl hr2 sr2
    | true =>
      simp only [if_true] at p2
      refine ⟨fun σ' H' => ∃ S' M' h', SR T X.K M' H' S' σ' ∧ HR T X.K M' H' h' ∧ postS T X.K W M' H' D (whileS mc b m S' h'), fun σ' H' hN => ⟨m, Nat.lt_succ_self m, hN⟩, S1, M2, h2, sr2, hr2, ?_⟩
      match eb : b S1 h2, p2 with
      | some (.error c, S4, h4), p3 => exact p3
      | some (.ok .nx, S4, h4), p3 => exact fun M' H4 σ' a1 a2 a3 => ⟨S4, M', h4, a3, a2, postS.ext p3 a1⟩
      | some (.ok .ct, S4, h4), p3 => exact fun M' H4 σ' a1 a2 a3 => ⟨S4, M', h4, a3, a2, postS.ext p3 a1⟩
      | some (.ok .bk, S4, h4), p3 => exact p3
      | some (.ok (.rt v), S4, h4), p3 => exact p3
      | none, p3 => exact p3.elim
/-! ### raise X('..') -/
def sRaise (c : Nat) : MS := fun S h => some (.error c, S, h)
theorem sim_raise (c : Nat) {e : Expr} {pos : Pos} (hc : X.calm = true) (tk : Takes X W) (he : PMk X e (fun _ H Q => Q (.ref (T.exc c)) none H)) : SimS T X W (.Raise (some e) none pos) (sRaise c) :=
  PS.weak (ps_raise hc tk he) fun D σ H ⟨S, M, h, sr, hr, p⟩ => p M H σ .refl hr sr
end
end EV
end T8
section T9
set_option Elab.async false
set_option linter.all false
set_option maxRecDepth 100000
namespace EV
open PySem PySem.Spec PyProof.Rows L2

section
variable {T : Tb} {X : Cx} {W : WX}
/-! ### isinstance(x, T), T a built-in type -/
def tyV' (v : Vl) (h : Hs) : Option String := match v with
  | .p .non => some "NoneType"
  | .p (.bl _) => some "bool"
  | .p (.int _) => some "int"
  | .p (.str _) => some "str"
  | .p (.tup _) => some "tuple"
  | .p (.lst _) => some "list"
  | .p (.dct _ _) => some "dict"
  | .ref n => match h[n]? with
    | some (.lst _) => some "list"
    | _ => none
  | _ => none
theorem RV.ty {M : Trk} {H : Hp} {h : Hs} {v : Vl} {x : V} {t : String} (hr : HR T X.K M H h) (r : RV T X.K M H v x) (e : tyV' v h = some t) : TyX X.K H x (.type t) := by
  unfold tyV' at e
  split at e
  · cases e; cases r with | p r => cases r; exact .base .non
  · cases e; cases r with | p r => cases r; exact .base (.bl _)
  · cases e; cases r with | p r => cases r; exact .base (.int _)
  · cases e; cases r with | p r => cases r; exact .base (.str _)
  · cases e
    cases r with
    | p r =>
      cases r with
      | tup a b => exact .base (.tup a.1)
  · cases e; cases r with | p r => cases r with | lst a b c => exact .base (.lst a)
  · cases e; cases r with | p r => cases r with | dct a b c d => exact .base (.dT a)
  · cases r with
    | ref ea =>
      obtain ⟨q, hq, c⟩ := hr.got ea
      rw [hq] at e
      cases c with
      | lst a b => cases e; exact .base (.lst a)
      | ins _ _ _ => cases e
  · cases e
def fIsi (u : String) (v : Vl) (h : Hs) : Rs Vl := match tyV' v h with
  | some t => match kitB t u with
    | some b => pB b h
    | none => none
  | none => none
theorem sim_isi {e : Expr} {m : ME} {ty : Str} {tn : String} {p p2 pos : Pos} (hm : X.mg "isinstance" = none) (hmt : X.mg ty = none) (hv : bootBuiltins ty = some (.type tn)) (ha : SimE T X W e m) (hg : Gl X "isinstance" := by rfl) (hg2 : Gl X ty := by rfl)
    (hn : ty ≠ "__name__" := by decide) (hdb : (ty == ("__debug__" : Str)) = false := by decide)
    (he : starEach [e, .Name ty p2] X.env = (false, eval e X.env) :: starEach [.Name ty p2] X.env := by rfl) (he2 : starEach [.Name ty p2] X.env = (false, eval (.Name ty p2) X.env) :: starEach [] X.env := by rfl) (hpl : (backTo pos (starEach [.Name ty p2] X.env)).any (·.1) = false := by rfl) :
    SimE T X W (.Call (.Name "isinstance" p) [e, .Name ty p2] [] pos) (m1 (fIsi tn) m) := by
  have hp : PA X [e, .Name ty p2] (tCons (tr T X.K W m) (tCons (tC (.ty tn)) tNil)) := pa_cons ha (pa_cons (pe_bltn hg2 hmt hv rfl hn hdb) pa_nil he2) he
  refine PE.weak (pe_callB call_isi hg hm boot_isinstance hp (he := he) (hpl := hpl)) fun σ H Q ⟨S, M, h, sr, hr, p⟩ => tr_then sr hr p fun v h1 M1 H1 x e1 sr1 hr1 r1 p1 => ?_
  unfold fIsi at p1
  split at p1
  · rename_i t ht
    split at p1
    · rename_i b hb
      exact ⟨x, .ty tn, .type t, .type tn, b, rfl, .ty tn, r1.ty hr1 ht, kit_ty hb, p1.ret .refl hr1 (.p (.bl _))⟩
    · exact p1.elim
  · exact p1.elim

/-! ### all, any of a list of truth values; sum of ints -/
def bls : List P → Option (List Bool)
  | [] => some []
  | .bl b :: ds => match bls ds with
    | some l => some (b :: l)
    | none => none
  | _ :: _ => none
def nums : List P → Option (List Int)
  | [] => some []
  | .int b :: ds => match nums ds with
    | some l => some (b :: l)
    | none => none
  | _ :: _ => none
theorem RpA.bls {K : PySem.W.Frag} {M : Trk} {H : Hp} : ∀ {ds : List P} {xs : List V} {l : List Bool}, RpA T K M H ds xs → EV.bls ds = some l → xs = l.map V.bl
  | _, _, _, .nil, e => by simp only [EV.bls, Option.some.injEq] at e; subst e; rfl
  | _, _, _, .cons (d := d) (ds := ds) hd r, e => by
    cases hd with
    | bl b =>
      simp only [EV.bls] at e
      cases q : EV.bls ds with
      | none => rw [q] at e; cases e
      | some l' => rw [q] at e; cases e; rw [RpA.bls r q]; rfl
    | _ => simp [EV.bls] at e
theorem RpA.nums {K : PySem.W.Frag} {M : Trk} {H : Hp} : ∀ {ds : List P} {xs : List V} {l : List Int}, RpA T K M H ds xs → EV.nums ds = some l → xs = l.map V.int
  | _, _, _, .nil, e => by simp only [EV.nums, Option.some.injEq] at e; subst e; rfl
  | _, _, _, .cons (d := d) (ds := ds) hd r, e => by
    cases hd with
    | int b =>
      simp only [EV.nums] at e
      cases q : EV.nums ds with
      | none => rw [q] at e; cases e
      | some l' => rw [q] at e; cases e; rw [RpA.nums r q]; rfl
    | _ => simp [EV.nums] at e
def kAll (vs : List Vl) (h : Hs) : Rs Vl := match vs with
  | [v] => match lstV v h with
    | some ds => match bls ds with
      | some l => pB (l.all id) h
      | none => none
    | none => none
  | _ => none
def kAny (vs : List Vl) (h : Hs) : Rs Vl := match vs with
  | [v] => match lstV v h with
    | some ds => match bls ds with
      | some l => pB (l.any id) h
      | none => none
    | none => none
  | _ => none
def kSumL (vs : List Vl) (h : Hs) : Rs Vl := match vs with
  | [v] => match lstV v h with
    | some ds => match nums ds with
      | some l => pI l.sum h
      | none => none
    | none => none
  | _ => none
theorem s_all : OpN T X.K kAll (rAll X.K) := by
  intro M H h vs xs Er Q hr r p
  unfold kAll at p
  split at p
  · split at p
    · rename_i ds q
      split at p
      · rename_i l ql
        cases r with
        | cons r1 r =>
          cases r
          obtain ⟨a, ys, rfl, hs, ra⟩ := r1.lstV hr q
          rw [ra.bls ql] at hs
          exact ⟨a, l, rfl, hs, p.ret .refl hr (.p (.bl _))⟩
      · exact p.elim
    · exact p.elim
  · exact p.elim
theorem s_any : OpN T X.K kAny (rAny X.K) := by
  intro M H h vs xs Er Q hr r p
  unfold kAny at p
  split at p
  · split at p
    · rename_i ds q
      split at p
      · rename_i l ql
        cases r with
        | cons r1 r =>
          cases r
          obtain ⟨a, ys, rfl, hs, ra⟩ := r1.lstV hr q
          rw [ra.bls ql] at hs
          exact ⟨a, l, rfl, hs, p.ret .refl hr (.p (.bl _))⟩
      · exact p.elim
    · exact p.elim
  · exact p.elim
theorem s_sumL : OpN T X.K kSumL (rSum X.K) := by
  intro M H h vs xs Er Q hr r p
  unfold kSumL at p
  split at p
  · split at p
    · rename_i ds q
      split at p
      · rename_i l ql
        cases r with
        | cons r1 r =>
          cases r
          obtain ⟨a, ys, rfl, hs, ra⟩ := r1.lstV hr q
          rw [ra.nums ql] at hs
          exact ⟨a, l, rfl, hs, p.ret .refl hr (.p (.int _))⟩
      · exact p.elim
    · exact p.elim
  · exact p.elim
/-- greatest, least of ints -/
def maxI : List Int → Option Int
  | [] => none
  | x :: l => some (l.foldl max x)
def minI : List Int → Option Int
  | [] => none
  | x :: l => some (l.foldl min x)
theorem foldl_max (l : List Int) : ∀ x : Int, x ≤ l.foldl max x ∧ (∀ y ∈ l, y ≤ l.foldl max x) ∧ (l.foldl max x = x ∨ l.foldl max x ∈ l) := by
  induction l with
  | nil => intro x; exact ⟨Int.le_refl _, fun _ h => (by cases h), .inl rfl⟩
  | cons a l ih =>
    intro x
    obtain ⟨h1, h2, h3⟩ := ih (max x a)
    simp only [List.foldl_cons]
    refine ⟨by omega, fun y hy => ?_, ?_⟩
    · rcases List.mem_cons.mp hy with e | hy
      · subst e; omega
      · exact h2 y hy
    · rcases h3 with h3 | h3
      · by_cases hm : x ≤ a
        · exact .inr (List.mem_cons.mpr (.inl (by omega)))
        · exact .inl (by omega)
      · exact .inr (List.mem_cons_of_mem _ h3)
theorem foldl_min (l : List Int) : ∀ x : Int, l.foldl min x ≤ x ∧ (∀ y ∈ l, l.foldl min x ≤ y) ∧ (l.foldl min x = x ∨ l.foldl min x ∈ l) := by
  induction l with
  | nil => intro x; exact ⟨Int.le_refl _, fun _ h => (by cases h), .inl rfl⟩
  | cons a l ih =>
    intro x
    obtain ⟨h1, h2, h3⟩ := ih (min x a)
    simp only [List.foldl_cons]
    refine ⟨by omega, fun y hy => ?_, ?_⟩
    · rcases List.mem_cons.mp hy with e | hy
      · subst e; omega
      · exact h2 y hy
    · rcases h3 with h3 | h3
      · by_cases hm : a ≤ x
        · exact .inr (List.mem_cons.mpr (.inl (by omega)))
        · exact .inl (by omega)
      · exact .inr (List.mem_cons_of_mem _ h3)
def kMaxL (vs : List Vl) (h : Hs) : Rs Vl := match vs with
  | [v] => match lstV v h with
    | some ds => match nums ds with
      | some l => match maxI l with
        | some m => pI m h
        | none => none
      | none => none
    | none => none
  | _ => none
def kMinL (vs : List Vl) (h : Hs) : Rs Vl := match vs with
  | [v] => match lstV v h with
    | some ds => match nums ds with
      | some l => match minI l with
        | some m => pI m h
        | none => none
      | none => none
    | none => none
  | _ => none
theorem s_maxL : OpN T X.K kMaxL (rMax X.K) := by
  intro M H h vs xs Er Q hr r p
  unfold kMaxL at p
  split at p
  · split at p
    · rename_i ds q
      split at p
      · rename_i l ql
        split at p
        · rename_i g qg
          cases r with
          | cons r1 r =>
            cases r
            obtain ⟨a, ys, rfl, hs, ra⟩ := r1.lstV hr q
            rw [ra.nums ql] at hs
            cases l with
            | nil => cases qg
            | cons x l =>
              cases qg
              refine ⟨a, x :: l, rfl, hs, by simp, fun m hm hy => ?_⟩
              obtain ⟨f1, f2, f3⟩ := foldl_max l x
              have e : m = l.foldl max x := by
                have u1 : l.foldl max x ≤ m := by
                  rcases f3 with f3 | f3
                  · rw [f3]; exact hy x (by simp)
                  · exact hy _ (List.mem_cons_of_mem _ f3)
                have u2 : m ≤ l.foldl max x := by
                  rcases List.mem_cons.mp hm with e | hm
                  · rw [e]; exact f1
                  · exact f2 m hm
                omega
              rw [e]
              exact p.ret .refl hr (.p (.int _))
        · exact p.elim
      · exact p.elim
    · exact p.elim
  · exact p.elim
theorem s_minL : OpN T X.K kMinL (rMin X.K) := by
  intro M H h vs xs Er Q hr r p
  unfold kMinL at p
  split at p
  · split at p
    · rename_i ds q
      split at p
      · rename_i l ql
        split at p
        · rename_i g qg
          cases r with
          | cons r1 r =>
            cases r
            obtain ⟨a, ys, rfl, hs, ra⟩ := r1.lstV hr q
            rw [ra.nums ql] at hs
            cases l with
            | nil => cases qg
            | cons x l =>
              cases qg
              refine ⟨a, x :: l, rfl, hs, by simp, fun m hm hy => ?_⟩
              obtain ⟨f1, f2, f3⟩ := foldl_min l x
              have e : m = l.foldl min x := by
                have u1 : m ≤ l.foldl min x := by
                  rcases f3 with f3 | f3
                  · rw [f3]; exact hy x (by simp)
                  · exact hy _ (List.mem_cons_of_mem _ f3)
                have u2 : l.foldl min x ≤ m := by
                  rcases List.mem_cons.mp hm with e | hm
                  · rw [e]; exact f1
                  · exact f2 m hm
                omega
              rw [e]
              exact p.ret .refl hr (.p (.int _))
        · exact p.elim
      · exact p.elim
    · exact p.elim
  · exact p.elim
section
variable {e : Expr} {m : MA} {p pos : Pos}
theorem sim_all (hc : X.calm = true) (hm : X.mg "all" = none) (ha : SimA T X W [e] m) (hg : Gl X "all" := by rfl) (he : starEach [e] X.env = (false, eval e X.env) :: starEach [] X.env := by rfl) : SimE T X W (.Call (.Name "all" p) [e] [] pos) (mAll kAll m) := sim_callB (cr_all hc) s_all hg hm boot_all ha (he := he) (hpl := rfl)
theorem sim_any (hc : X.calm = true) (hm : X.mg "any" = none) (ha : SimA T X W [e] m) (hg : Gl X "any" := by rfl) (he : starEach [e] X.env = (false, eval e X.env) :: starEach [] X.env := by rfl) : SimE T X W (.Call (.Name "any" p) [e] [] pos) (mAll kAny m) := sim_callB (cr_any hc) s_any hg hm boot_any ha (he := he) (hpl := rfl)
theorem sim_sumL (hc : X.calm = true) (hm : X.mg "sum" = none) (ha : SimA T X W [e] m) (hg : Gl X "sum" := by rfl) (he : starEach [e] X.env = (false, eval e X.env) :: starEach [] X.env := by rfl) : SimE T X W (.Call (.Name "sum" p) [e] [] pos) (mAll kSumL m) := sim_callB (cr_sum hc) s_sumL hg hm boot_sum ha (he := he) (hpl := rfl)
theorem sim_maxL (hc : X.calm = true) (hm : X.mg "max" = none) (ha : SimA T X W [e] m) (hg : Gl X "max" := by rfl) (he : starEach [e] X.env = (false, eval e X.env) :: starEach [] X.env := by rfl) : SimE T X W (.Call (.Name "max" p) [e] [] pos) (mAll kMaxL m) := sim_callB (cr_max hc) s_maxL hg hm boot_max ha (he := he) (hpl := rfl)
theorem sim_minL (hc : X.calm = true) (hm : X.mg "min" = none) (ha : SimA T X W [e] m) (hg : Gl X "min" := by rfl) (he : starEach [e] X.env = (false, eval e X.env) :: starEach [] X.env := by rfl) : SimE T X W (.Call (.Name "min" p) [e] [] pos) (mAll kMinL m) := sim_callB (cr_min hc) s_minL hg hm boot_min ha (he := he) (hpl := rfl)
/-! int(truth value), int(int), str(int) -/
def kInt (vs : List Vl) (h : Hs) : Rs Vl := match vs with
  | [.p (.int i)] => pI i h
  | [.p (.bl k)] => pI (if k then 1 else 0) h
  | _ => none
theorem s_int : OpN T X.K kInt (fun xs H Q => (∃ i, xs = [.int i] ∧ Q (.int i) H) ∨ ∃ k, xs = [.bl k] ∧ Q (.int (if k then 1 else 0)) H) := by
  intro M H h vs xs Er Q hr r p
  unfold kInt at p
  split at p
  · cases r with
    | cons r1 r =>
      cases r
      cases r1 with
      | p r1 => cases r1; exact .inl ⟨_, rfl, p.ret .refl hr (.p (.int _))⟩
  · cases r with
    | cons r1 r =>
      cases r
      cases r1 with
      | p r1 => cases r1; exact .inr ⟨_, rfl, p.ret .refl hr (.p (.int _))⟩
  · exact p.elim
theorem sim_int1 (hm : X.mg "int" = none) (ha : SimA T X W [e] m) (hg : Gl X "int" := by rfl) (he : starEach [e] X.env = (false, eval e X.env) :: starEach [] X.env := by rfl) : SimE T X W (.Call (.Name "int" p) [e] [] pos) (mAll kInt m) :=
  sim_callTy call_int1 s_int hg hm (PyProof.Rows.boot_int) ha (he := he) (hpl := rfl)
def kStr (vs : List Vl) (h : Hs) : Rs Vl := match vs with
  | [.p (.int i)] => if i.natAbs.log2 < 1920 then ret (.p (.str (toString i))) h else none
  | _ => none
theorem s_str : OpN T X.K kStr (fun xs H Q => ∃ i, xs = [.int i] ∧ i.natAbs.log2 < 1920 ∧ Q (.str (toString i)) H) := by
  intro M H h vs xs Er Q hr r p
  unfold kStr at p
  split at p
  · split at p
    · rename_i hz
      cases r with
      | cons r1 r =>
        cases r
        cases r1 with
        | p r1 => cases r1; exact ⟨_, rfl, hz, p.ret .refl hr (.p (.str _))⟩
    · exact p.elim
  · exact p.elim
theorem sim_str1 (hm : X.mg "str" = none) (ha : SimA T X W [e] m) (hg : Gl X "str" := by rfl) (he : starEach [e] X.env = (false, eval e X.env) :: starEach [] X.env := by rfl) : SimE T X W (.Call (.Name "str" p) [e] [] pos) (mAll kStr m) :=
  sim_callTy call_str_int s_str hg hm (PyProof.Rows.boot_str) ha (he := he) (hpl := rfl)
end
/-! ### t * k, xs * k -/
def fRepT (v w : Vl) (h : Hs) : Rs Vl := match v, w with
  | .p (.tup ds), .p (.int k) => if ds ≠ [] ∧ 2 ≤ k ∧ k ≤ 1000 ∧ ds.length ≤ 1000 then ret (.p (.tup (List.replicate k.toNat ds).flatten)) h else none
  | _, _ => none
theorem RpA.rep {K : PySem.W.Frag} {M : Trk} {H : Hp} {ds : List P} {xs : List V} (r : RpA T K M H ds xs) : ∀ n : Nat, RpA T K M H (List.replicate n ds).flatten (List.replicate n xs).flatten
  | 0 => .nil
  | n + 1 => by
    rw [List.replicate_succ, List.replicate_succ, List.flatten_cons, List.flatten_cons]
    exact r.append (RpA.rep r n)
theorem RpA.ne {K : PySem.W.Frag} {M : Trk} {H : Hp} {ds : List P} {xs : List V} (r : RpA T K M H ds xs) (h : ds ≠ []) : xs ≠ [] := fun e => by
  subst e
  cases r
  exact h rfl
theorem s_repT : Op2 T X.K fRepT (rRepT X.K) := by
  intro M H h v w x y Er Q hr rx ry p
  unfold fRepT at p
  split at p
  · split at p
    · rename_i hz
      cases rx with
      | p rx =>
        cases rx with
        | tup a ra =>
          cases ry with
          | p ry =>
            cases ry
            exact ⟨_, _, _, rfl, rfl, a.sqT, ra.ne hz.1, hz.2.1, hz.2.2.1, by rw [← ra.length]; exact hz.2.2.2, fun q hq => p.ret (.fresh hq) (hr.fresh hq) (new_tup hr hq (ra.rep _))⟩
    · exact p.elim
  · exact p.elim
def fRepL (v w : Vl) (h : Hs) : Rs Vl := match v, w with
  | .p (.lst ds), .p (.int k) => if -(2 ^ 63) ≤ k ∧ k < 2 ^ 63 ∧ ds.length * k.toNat ≤ 16777216 then ret (.p (.lst (List.replicate k.toNat ds).flatten)) h else none
  | _, _ => none
theorem s_repL : Op2 T X.K fRepL rRep := by
  intro M H h v w x y Er Q hr rx ry p
  unfold fRepL at p
  split at p
  · split at p
    · rename_i hz
      cases rx with
      | p rx =>
        cases rx with
        | lst a n ra =>
          cases ry with
          | p ry =>
            cases ry
            exact ⟨_, _, _, rfl, rfl, a, hz.1, hz.2.1, by rw [← ra.length]; exact le_line hz.2.2, fun q hq => p.ret (.fresh hq) (hr.fresh hq) (new_lst hr hq (ra.rep _))⟩
    · exact p.elim
  · exact p.elim
section
variable {ea eb : Expr} {a b : ME} {pos : Pos}
theorem sim_repT (ha : SimE T X W ea a) (hb : SimE T X W eb b) : SimE T X W (.BinOp ea .Mult eb pos) (m2 fRepT a b) := sim_op op_repT s_repT ha hb
theorem sim_repL (ha : SimE T X W ea a) (hb : SimE T X W eb b) : SimE T X W (.BinOp ea .Mult eb pos) (m2 fRepL a b) := sim_op op_rep s_repL ha hb
end
/-! ### a module's constant that is an int; xs[::-1]; list(range(..)) -/
theorem sim_glob {x : Str} {i : Int} {pos : Pos} (hm : ∃ t, X.mg x = some (.int i t)) (hg : Gl X x := by rfl) (hd : (x == ("__debug__" : Str)) = false := by decide) : SimE T X W (.Name x pos) (mC (.int i)) := by
  obtain ⟨t, hm⟩ := hm
  exact PE.weak (pe_glob (v := .int i) hg hm ⟨t, rfl⟩ hd) fun σ H Q ⟨_, _, _, _, hr, p⟩ => p.ret .refl hr (.p (.int i))
def fRev (v : Vl) (h : Hs) : Rs Vl := match lstV v h with
  | some ds => ret (.p (.lst ds.reverse)) h
  | none => none
theorem sim_rev {e : Expr} {m : ME} {k : Nat} {p1 p2 p3 pos : Pos} (he : SimE T X W e m) : SimE T X W (.Subscript e (.Slice none none (some (.UnaryOp .USub (.Constant (.int 1) k p1) p2)) p3) pos) (m1 fRev m) := by
  refine PE.weak (pe_revL he) fun σ H Q ⟨S, M, h, sr, hr, p⟩ => tr_then sr hr p fun v h1 M1 H1 x e1 sr1 hr1 r1 p1 => ?_
  unfold fRev at p1
  split at p1
  · rename_i ds q
    obtain ⟨a, ys, rfl, hs, ra⟩ := r1.lstV hr1 q
    exact ⟨a, ys, rfl, hs, fun q hq => p1.ret (.fresh hq) (hr1.fresh hq) (new_lst hr1 hq ra.reverse)⟩
  · exact p1.elim
def kRange (vs : List Vl) (h : Hs) : Rs Vl := match vs with
  | [.p (.int j)] => if 0 ≤ j ∧ j ≤ 16777216 then ret (.p (.lst (intsP 0 j.toNat))) h else none
  | [.p (.int i), .p (.int j)] => if 0 ≤ i ∧ i ≤ 16777216 ∧ 0 ≤ j ∧ j ≤ 16777216 then ret (.p (.lst (intsP i (j - i).toNat))) h else none
  | _ => none
theorem rg_rp {K : PySem.W.Frag} {M : Trk} {H : Hp} (a b : Int) : RpA T K M H (intsP a (b - a).toNat) (rgV a b) := by
  unfold intsP rgV
  have : ∀ l : List Nat, RpA T K M H (l.map fun (k : Nat) => P.int (a + k)) (l.map fun i => V.int (a + (i : Nat))) := fun l => by
    induction l with
    | nil => exact .nil
    | cons x l ih => exact .cons (.int _) ih
  exact this _
section
variable {a b : Expr} {m m' : ME} {p q pos qos : Pos}
theorem sim_listR1 (hc : X.calm = true) (hm : X.mg "list" = none) (hm2 : X.mg "range" = none) (ha : SimE T X W a m) (hg : Gl X "list" := by rfl) (hg2 : Gl X "range" := by rfl) (na : starEach [a] X.env = (false, eval a X.env) :: starEach [] X.env := by rfl)
    (nb : starEach [.Call (.Name "range" q) [a] [] qos] X.env = (false, eval (.Call (.Name "range" q) [a] [] qos) X.env) :: starEach [] X.env := by rfl) : SimE T X W (.Call (.Name "list" p) [.Call (.Name "range" q) [a] [] qos] [] pos) (m1 (fun v h => kRange [v] h) m) := by
  refine PE.weak (pe_listRg hc hg hm (prg_1 hg2 hm2 ha na) nb) fun σ H Q ⟨S, M, h, sr, hr, p⟩ => tr_then sr hr p fun v h1 M1 H1 x e1 sr1 hr1 r1 p1 => ?_
  unfold kRange at p1
  split at p1
  · rename_i j e
    cases e
    split at p1
    · rename_i hz
      cases r1 with
      | p r1 =>
        cases r1
        refine ⟨_, rfl, .of_le (by omega) hz.2 (by omega) hz.1, fun l hl => ?_⟩
        have e : intsP 0 j.toNat = intsP 0 (j - 0).toNat := by simp
        rw [e] at p1
        exact p1.ret (.fresh hl) (hr1.fresh hl) (new_lst hr1 hl (rg_rp 0 j))
    · exact p1.elim
  · rename_i e
    cases e
  · exact p1.elim
theorem sim_listR2 (hc : X.calm = true) (hm : X.mg "list" = none) (hm2 : X.mg "range" = none) (ha : SimE T X W a m) (hb : SimE T X W b m') (hg : Gl X "list" := by rfl) (hg2 : Gl X "range" := by rfl) (na : starEach [a, b] X.env = (false, eval a X.env) :: starEach [b] X.env := by rfl) (na2 : starEach [b] X.env = (false, eval b X.env) :: starEach [] X.env := by rfl) (hp : (backTo qos (starEach [b] X.env)).any (·.1) = false := by rfl)
    (nb : starEach [.Call (.Name "range" q) [a, b] [] qos] X.env = (false, eval (.Call (.Name "range" q) [a, b] [] qos) X.env) :: starEach [] X.env := by rfl) : SimE T X W (.Call (.Name "list" p) [.Call (.Name "range" q) [a, b] [] qos] [] pos) (m2 (fun v w h => kRange [v, w] h) m m') := by
  refine PE.weak (pe_listRg hc hg hm (prg_2 hg2 hm2 ha hb na na2 hp) nb) fun σ H Q ⟨S, M, h, sr, hr, p⟩ => tr_then sr hr p fun v h1 M1 H1 x e1 sr1 hr1 r1 p1 => tr_then sr1 hr1 p1 fun v2 h2 M2 H2 y e2 sr2 hr2 r2 p2 => ?_
  have p2 : post T X.K (RV T X.K) M2 H2 (erAt T W σ) Q (kRange [v, v2] h2) := p2
  unfold kRange at p2
  split at p2
  · rename_i e
    cases e
  · rename_i i j e
    cases e
    have p2 : post T X.K (RV T X.K) M2 H2 (erAt T W σ) Q (if 0 ≤ i ∧ i ≤ 16777216 ∧ 0 ≤ j ∧ j ≤ 16777216 then ret (.p (.lst (intsP i (j - i).toNat))) h2 else none) := p2
    split at p2
    · rename_i hz
      cases r1 with
      | p r1 =>
        cases r2 with
        | p r2 =>
          cases r1
          cases r2
          exact ⟨_, _, rfl, rfl, .of_le hz.1 hz.2.2.2 hz.2.1 hz.2.2.1, fun l hl => p2.ret (.fresh hl) (hr2.fresh hl) (new_lst hr2 hl (rg_rp i j))⟩
    · exact p2.elim
  · exact p2.elim
end
/-! ### a op b op' c -/
def m3 (f g : Vl → Vl → Hs → Rs Vl) (a b c : ME) : ME := fun S h => bnd (a S h) fun v h1 => bnd (b S h1) fun w h2 => bnd (f v w h2) fun z h3 => match z with
  | .p (.bl k) => if k = true then bnd (c S h3) fun u h4 => g w u h4 else ret (.p (.bl false)) h3
  | _ => none
theorem op2_post {f : Vl → Vl → Hs → Rs Vl} {r : R2} (hf : Op2 T X.K f r) {M : Trk} {H : Hp} {h : Hs} {v w : Vl} {x y : V} {Er : Nat → Hp → Prop} {Q : VK} {k : Vl → Hs → Rs Vl} {G : VK} (hr : HR T X.K M H h) (rx : RV T X.K M H v x) (ry : RV T X.K M H w y)
    (p : post T X.K (RV T X.K) M H Er Q (bnd (f v w h) k)) (g : ∀ u h1 M1 H1 z, Ext M H M1 H1 → HR T X.K M1 H1 h1 → RV T X.K M1 H1 u z → post T X.K (RV T X.K) M1 H1 Er Q (k u h1) → G z H1) : r x y H G :=
  hf M H h v w x y Er G hr rx ry (p.bnd g)
section
variable {op op' : CmpOp} {f g : Vl → Vl → Hs → Rs Vl} {r r' : R2} {ea eb ec : Expr} {a b c : ME} {pos : Pos} {k : Nat}
theorem tr_chain (hf : Op2 T X.K f r) (hg : Op2 T X.K g r') {σ : L2.St} {H : Hp} {Q : VK} (h : tr T X.K W (m3 f g a b c) σ H Q) : tChain r r' (tr T X.K W a) (tr T X.K W b) (tr T X.K W c) σ H Q := by
  obtain ⟨S, M, h, sr, hr, p⟩ := h
  refine tr_then sr hr p fun v h1 M1 H1 x e1 sr1 hr1 r1 p1 => tr_then sr1 hr1 p1 fun w h2 M2 H2 y e2 sr2 hr2 r2 p2 => ?_
  refine op2_post hf hr2 (r1.ext e2) r2 p2 fun u h3 M3 H3 z e3 hr3 r3 p3 => ?_
  split at p3
  · cases r3 with
    | p r3 =>
      cases r3
      rename_i kk
      refine ⟨kk, rfl, ?_⟩
      cases kk with
      | false => exact p3.ret .refl hr3 (.p (.bl _))
      | true =>
        simp only [if_true] at p3 ⊢
        exact tr_then (sr2.ext e3) hr3 p3 fun u h4 M4 H4 z e4 sr4 hr4 r4 p4 => hg M4 H4 h4 w u y z _ Q hr4 ((r2.ext e3).ext e4) r4 p4
  · exact p3.elim
theorem sim_chain (ho : OpR X (compareOp op) r) (ho' : OpR X (compareOp op') r') (hf : Op2 T X.K f r) (hg : Op2 T X.K g r') (ha : SimE T X W ea a) (hb : SimE T X W eb b) (hc : SimE T X W ec c) (hm : lastMarks [op, op'] [eb, ec] = false) : SimE T X W (.Compare ea [op, op'] [eb, ec] pos) (m3 f g a b c) :=
  PE.weak (pe_chain ho ho' ha hb hc hm) fun _ _ _ h => tr_chain hf hg h
theorem simT_chain (ho : OpR X (compareOp op) r) (ho' : OpR X (compareOp op') r') (hf : Op2 T X.K f r) (hg : Op2 T X.K g r') (ha : SimE T X W ea a) (hb : SimE T X W eb b) (hc : SimE T X W ec c) (hm : lastMarks [op, op'] [eb, ec] = false) : SimT T X W (.Compare ea [op, op'] [eb, ec] pos) (mT (m3 f g a b c)) :=
  PT.weak (pt_chain ho ho' ha hb hc hm) fun _ _ _ h => tr_chain hf hg (tr_bT h)
theorem sim_chain_le_le (ha : SimE T X W ea a) (hb : SimE T X W eb b) (hc : SimE T X W ec c) (hm : lastMarks [.LtE, .LtE] [eb, ec] = false := by with_unfolding_all rfl) : SimE T X W (.Compare ea [.LtE, .LtE] [eb, ec] pos) (m3 fLe fLe a b c) := sim_chain op_le op_le (s_I0 fun _ _ _ _ => .bl _) (s_I0 fun _ _ _ _ => .bl _) ha hb hc hm
theorem simT_chain_le_le (ha : SimE T X W ea a) (hb : SimE T X W eb b) (hc : SimE T X W ec c) (hm : lastMarks [.LtE, .LtE] [eb, ec] = false := by with_unfolding_all rfl) : SimT T X W (.Compare ea [.LtE, .LtE] [eb, ec] pos) (mT (m3 fLe fLe a b c)) := simT_chain op_le op_le (s_I0 fun _ _ _ _ => .bl _) (s_I0 fun _ _ _ _ => .bl _) ha hb hc hm
theorem sim_chain_eq_eq (hr : Room k X.A) (ha : SimE T X W ea a) (hb : SimE T X W eb b) (hc : SimE T X W ec c) (hm : lastMarks [.Eq, .Eq] [eb, ec] = false := by with_unfolding_all rfl) : SimE T X W (.Compare ea [.Eq, .Eq] [eb, ec] pos) (m3 (fEqD false) (fEqD false) a b c) := sim_chain (op_eqD hr.units) (op_eqD hr.units) s_eq s_eq ha hb hc hm
end
/-! ### sum of a tuple of ints -/
def rSumT (K : PySem.W.Frag) : List V → Hp → VK → Prop := fun vs H Q => ∃ (a : Addr) (ns : List Int), vs = [V.ref a] ∧ SqT K H a (ns.map V.int) ∧ Q (.int ns.sum) H
theorem cr_sumT (hc : X.calm = true) : CallR X (.builtin "sum") (rSumT X.K) := by
  rintro pins s σ H xs us Q I r ⟨a, ns, rfl, hs, q⟩
  rw [Vals.ref1 r]
  obtain ⟨its, rv, ht, hz⟩ := I.tuple hs
  have hi : IntsAre its ns := rv.ints
  obtain ⟨xs, hx⟩ := hi.allInts.items
  have hn : numsOf its.toArray.toList = ns := by rw [show its.toArray.toList = its from rfl, hi.numsOf]
  have ht' : s.heap.IsTuple a its.toArray := ht
  rw [hx] at ht' hn
  rw [nums_intItems] at hn
  refine PySem.W.ktm_sumG (I.ok.hd hc) ht' fun h' tk t' hk => ?_
  rw [preSum_eq, List.take_of_length_le (by simp), hn]
  exact ⟨.int ns.sum, H, I.kept hk, ⟨_, rfl⟩, q⟩
def kSum (vs : List Vl) (h : Hs) : Rs Vl := match vs with
  | [.p (.tup ds)] => match nums ds with
    | some l => pI l.sum h
    | none => none
  | vs => kSumL vs h
theorem s_sum : OpN T X.K kSum (fun xs H Q => rSumT X.K xs H Q ∨ rSum X.K xs H Q) := by
  intro M H h vs xs Er Q hr r p
  unfold kSum at p
  split at p
  · split at p
    · rename_i l ql
      cases r with
      | cons r1 r =>
        cases r
        cases r1 with
        | p r1 =>
          cases r1 with
          | tup ht ra =>
            have hs := ht.sqT (K := X.K)
            rw [ra.nums ql] at hs
            exact .inl ⟨_, l, rfl, hs, p.ret .refl hr (.p (.int _))⟩
    · exact p.elim
  · exact .inr (s_sumL M H h _ xs Er Q hr r p)
theorem sim_sum {e : Expr} {m : MA} {p pos : Pos} (hc : X.calm = true) (hm : X.mg "sum" = none) (ha : SimA T X W [e] m) (hg : Gl X "sum" := by rfl) (he : starEach [e] X.env = (false, eval e X.env) :: starEach [] X.env := by rfl) : SimE T X W (.Call (.Name "sum" p) [e] [] pos) (mAll kSum m) :=
  sim_callB ((cr_sumT hc).or (cr_sum hc)) s_sum hg hm boot_sum ha (he := he) (hpl := rfl)
end
end EV
end T9
section T10
set_option Elab.async false
set_option linter.all false
set_option maxRecDepth 100000
namespace EV
open PySem PySem.Spec PyProof.Rows L2

section
variable {T : Tb} {X : Cx} {W : WX}
/-! ### what is not followed -/
def sNo : MS := fun _ _ => none
theorem sim_no {st : Stmt} : SimS T X W st sNo := ⟨fun _ _ _ _ _ _ ⟨_, _, _, _, _, p⟩ => p.elim⟩
def mNo : ME := fun _ _ => none
theorem sim_noE {e : Expr} : SimE T X W e mNo := ⟨fun _ _ _ _ _ _ ⟨_, _, _, _, _, p⟩ => p.elim⟩
/-! ### classes -/
structure ClsF (T : Tb) (K : PySem.W.Frag) (c : Nat) : Prop where
  cl : Cls K (T.cls c)
  no : ∀ f ∈ T.nms c, NoAttr K (T.cls c) f
  nd : (T.nms c).Nodup
  ln : (T.nms c).length < 1000
def fldV (v : Vl) (h : Hs) : Option (Nat × List P) := match v with
  | .p (.ins c fs) => some (c, fs)
  | .ref n => match h[n]? with
    | some (.ins c fs) => some (c, fs)
    | _ => none
  | _ => none
theorem RV.fld {K : PySem.W.Frag} {M : Trk} {H : Hp} {h : Hs} {v : Vl} {x : V} {c : Nat} {fs : List P} (hr : HR T K M H h) (r : RV T K M H v x) (e : fldV v h = some (c, fs)) :
    ∃ a dx gs, x = .ref a ∧ H a = some (.ins (T.cls c) dx gs) ∧ gs.map (·.1) = (T.nms c).take fs.length ∧ RpA T K M H fs (gs.map (·.2)) := by
  unfold fldV at e
  split at e
  · cases e
    cases r with | p r => cases r with | ins z n q ra => exact ⟨_, _, _, rfl, z, q, ra⟩
  · cases r with
    | ref ea =>
      obtain ⟨q, hq, cc⟩ := hr.got ea
      rw [hq] at e
      cases cc with
      | ins z q ra => cases e; exact ⟨_, _, _, rfl, z, q, ra⟩
      | lst _ _ => cases e
  · cases e
theorem lookup_nth : ∀ {gs : List (Str × V)} {i : Nat} {f : Str} {v : V}, (gs.map (·.1)).Nodup → (gs.map (·.1))[i]? = some f → (gs.map (·.2))[i]? = some v → gs.lookup f = some v
  | [], i, _, _, _, e, _ => by simp at e
  | (g, y) :: gs, 0, f, v, _, e1, e2 => by
    simp at e1 e2
    subst e1 e2
    simp [List.lookup]
  | (g, y) :: gs, i + 1, f, v, nd, e1, e2 => by
    have nd' := List.nodup_cons.mp (show (g :: gs.map (·.1)).Nodup from nd)
    have e1' : (gs.map (·.1))[i]? = some f := by simpa using e1
    have e2' : (gs.map (·.2))[i]? = some v := by simpa using e2
    have ne : f ≠ g := fun z => nd'.1 (by rw [← z]; exact List.mem_of_getElem? e1')
    have hb : (f == g) = false := by simpa using ne
    simp only [List.lookup, hb]
    exact lookup_nth nd'.2 e1' e2'
theorem nodup_take {α : Type} {l : List α} (h : l.Nodup) (n : Nat) : (l.take n).Nodup := (List.take_sublist n l).nodup h
/-! ### o.f -/
def mFld (c i : Nat) (o : ME) : ME := fun S h => bnd (o S h) fun v h1 => match fldV v h1 with
  | some (c', fs) => if c' = c then match fs[i]? with
      | some d => ret (.p d) h1
      | none => none
    else none
  | none => none
theorem sim_fld (c i : Nat) {e : Expr} {f : Str} {m : ME} {pos : Pos} (Z : ClsF T X.K c) (hi : (T.nms c)[i]? = some f) (he : SimE T X W e m) (hb : attributeBase e f X.env (eval e X.env) = eval e X.env := by rfl) : SimE T X W (.Attribute e f pos) (mFld c i m) := by
  refine PE.weak (pe_fld he hb) fun σ H Q ⟨S, M, h, sr, hr, p⟩ => tr_then sr hr p fun v h1 M1 H1 x e1 sr1 hr1 r1 p1 => ?_
  split at p1
  · rename_i c' fs q
    split at p1
    · rename_i hc
      subst hc
      split at p1
      · rename_i d hd
        obtain ⟨a, dx, gs, rfl, z, nm, ra⟩ := r1.fld hr1 q
        obtain ⟨y, hy, ry⟩ := ra.get hd
        have hn : (gs.map (·.1))[i]? = some f := by
          rw [nm, List.getElem?_take_of_lt (List.getElem?_eq_some_iff.mp hd).1]; exact hi
        refine ⟨a, _, dx, gs, y, rfl, z, Z.cl, Z.no f (List.mem_of_getElem? hi), lookup_nth (by rw [nm]; exact nodup_take Z.nd _) hn hy, p1.ret .refl hr1 (.p ry)⟩
      · exact p1.elim
    · exact p1.elim
  · exact p1.elim
/-! ### o.f = e, o tracked: a new last field, or one that stands -/
def wFld (c i : Nat) (o v : Vl) (S : Sl) (h : Hs) : RS := match o, v with
  | .ref n, .p d => match h[n]? with
    | some (.ins c' fs) => if c' = c then (if i = fs.length then some (.ok .nx, S, h.set n (.ins c (fs ++ [d]))) else if i < fs.length then some (.ok .nx, S, h.set n (.ins c (fs.set i d))) else none) else none
    | _ => none
  | _, _ => none
def sFldS (c i : Nat) (mo m : ME) : MS := fun S h => bndS (m S h) S fun v h1 => bndS (mo S h1) S fun o h2 => wFld c i o v S h2
theorem putF_new {f : Str} {v : V} : ∀ {gs : List (Str × V)}, f ∉ gs.map (·.1) → putF f v gs = gs ++ [(f, v)]
  | [], _ => rfl
  | (g, y) :: gs, h => by
    have h' : f ≠ g ∧ f ∉ gs.map (·.1) := by simpa using h
    show (if g = f then _ else _) = _
    rw [if_neg (fun z => h'.1 z.symm), putF_new h'.2]; rfl
theorem putF_at {f : Str} {v : V} : ∀ {gs : List (Str × V)} {i : Nat}, (gs.map (·.1)).Nodup → (gs.map (·.1))[i]? = some f → (putF f v gs).map (·.1) = gs.map (·.1) ∧ (putF f v gs).map (·.2) = (gs.map (·.2)).set i v
  | [], _, _, e => by simp at e
  | (g, y) :: gs, 0, _, e => by
    have e : g = f := by simpa using e
    show ((if g = f then (g, v) :: gs else _).map _ = _ ∧ (if g = f then (g, v) :: gs else _).map _ = _)
    rw [if_pos e]; exact ⟨rfl, rfl⟩
  | (g, y) :: gs, i + 1, nd, e => by
    have nd' := List.nodup_cons.mp (show (g :: gs.map (·.1)).Nodup from nd)
    have e' : (gs.map (·.1))[i]? = some f := by simpa using e
    have ne : g ≠ f := fun z => nd'.1 (by rw [z]; exact List.mem_of_getElem? e')
    obtain ⟨a, b⟩ := putF_at (v := v) nd'.2 e'
    show ((if g = f then _ else (g, y) :: putF f v gs).map _ = _ ∧ (if g = f then _ else (g, y) :: putF f v gs).map _ = _)
    rw [if_neg ne]
    exact ⟨by simp [a], by simp [b]⟩
theorem sim_setFld (c i : Nat) {o e : Expr} {f : Str} {mo m : ME} {pos pos' : Pos} (Z : ClsF T X.K c) (hi : (T.nms c)[i]? = some f) (he : SimE T X W e m) (ho : SimE T X W o mo) (hs : swapsWith e (some (.Attribute o f pos')) pos.line X.env = pure false := by rfl) :
    SimS T X W (.Assign [.Attribute o f pos'] e pos) (sFldS c i mo m) := by
  refine PS.weak (ps_fld ho he hs) fun D σ H ⟨S, M, h, sr, hr, p⟩ => ⟨S, M, h, sr, hr, p.bnd sr fun v h1 M1 H1 x e1 sr1 hr1 r1 p1 => ⟨S, M1, h1, sr1, hr1, p1.bnd sr1 fun w h2 M2 H2 y e2 sr2 hr2 r2 p2 => ?_⟩⟩
  unfold wFld at p2
  split at p2
  · rename_i n d
    cases r2 with
    | ref ea =>
      rename_i a
      obtain ⟨q, hq, cc⟩ := hr2.got ea
      rw [hq] at p2
      cases cc with
      | lst _ _ => exact p2.elim
      | ins z nm ra =>
        rename_i dx c' fs gs
        dsimp only at p2
        split at p2
        · rename_i hc
          subst hc
          have hmem := List.mem_of_getElem? hi
          have rd : Rp T X.K M2 H2 d x := by cases r1 with | p r1 => exact r1.ext e2
          have hb : a ∈ M2.no := M2.sub a (List.mem_of_getElem? ea)
          have hlen : gs.length = fs.length := by simpa using ra.length.symm
          have hlim : gs.length < 1000 := by
            have h1 : (gs.map (·.1)).length = gs.length := List.length_map ..
            rw [nm] at h1
            have := List.length_take_le fs.length (T.nms c')
            have h2 : (List.take fs.length (T.nms c')).length ≤ (T.nms c').length := by rw [List.length_take]; omega
            have := Z.ln
            omega
          refine ⟨a, _, dx, gs, rfl, z, Z.cl, Z.no f hmem, hlim, ?_⟩
          split at p2
          · rename_i hl
            have hn : f ∉ gs.map (·.1) := fun zz => by
              rw [nm] at zz
              obtain ⟨j, hj⟩ := List.getElem?_of_mem zz
              have hjl : j < fs.length := by
                have := (List.getElem?_eq_some_iff.mp hj).1
                rw [List.length_take] at this; omega
              rw [List.getElem?_take_of_lt hjl] at hj
              obtain ⟨u1, q1⟩ := List.getElem?_eq_some_iff.mp hj
              obtain ⟨u2, q2⟩ := List.getElem?_eq_some_iff.mp hi
              have := (List.getElem_inj Z.nd).mp (q1.trans q2.symm)
              omega
            rw [putF_new hn]
            refine p2 M2 _ σ (.write (List.mem_of_getElem? ea)) (hr2.write ea (.ins upd_same ?_ ?_)) (sr2.ext (.write (List.mem_of_getElem? ea)))
            · rw [List.map_append, nm, List.length_append]
              show _ = List.take (fs.length + 1) (T.nms c')
              rw [List.take_add_one, show (T.nms c')[fs.length]? = some f by rw [← hl]; exact hi]; rfl
            · rw [List.map_append]
              exact (RpA.append (ra.barred hb) (.cons (rd.barred hb) .nil))
          · split at p2
            · rename_i hl
              have hn : (gs.map (·.1))[i]? = some f := by rw [nm, List.getElem?_take_of_lt hl]; exact hi
              obtain ⟨a1, a2⟩ := putF_at (v := x) (by rw [nm]; exact nodup_take Z.nd _) hn
              refine p2 M2 _ σ (.write (List.mem_of_getElem? ea)) (hr2.write ea (.ins upd_same ?_ ?_)) (sr2.ext (.write (List.mem_of_getElem? ea)))
              · rw [a1, nm, List.length_set]
              · rw [a2]
                exact RpA.set (rd.barred hb) i (ra.barred hb)
            · exact p2.elim
        · exact p2.elim
  · exact p2.elim
end
end EV
end T10
section T11
set_option Elab.async false
set_option linter.all false
set_option maxRecDepth 100000
set_option maxHeartbeats 1000000
namespace EV
open PySem PySem.Spec PyProof.Rows L2

section
variable {T : Tb} {X : Cx} {W : WX} {k : Nat}
/-! ### properties -/
structure PropF (T : Tb) (X : Cx) (k c : Nat) (f : Str) (g : List Vl → Hs → Rs Vl) : Prop where
  ex : ∃ j p a, j + 1 ≤ k ∧ PropOf X.K (T.cls c) f p a ∧ FnR X.prog X.w X.K X.mg X.base (L2.CX X.prog X.w) j a (spF T X.K g)
/-- .. that raise nothing -/
def quiet {α : Type} : Rs α → Rs α
  | some (.error _, _) => none
  | r => r
theorem post_quiet {α β : Type} {K : PySem.W.Frag} {R : Trk → Hp → α → β → Prop} {M : Trk} {H : Hp} {Er Er' : Nat → Hp → Prop} {Q : β → Hp → Prop} {r : Rs α} (p : post T K R M H Er Q (quiet r)) : post T K R M H Er' Q r := by
  match r, p with
  | some (.ok v, h'), p => exact p
def mProp (c : Nat) (g : List Vl → Hs → Rs Vl) (o : ME) : ME := fun S h => bnd (o S h) fun v h1 => match fldV v h1 with
  | some (c', _) => if c' = c then quiet (g [v] h1) else none
  | none => none
theorem run_prop {pins : List (Addr × Obj)} {σ : L2.St} {H : Hp} {s : Shared} {Q : VK} {b : Bool} {a C dx p q : Addr} {gs : List (Str × V)} {f : Str} {j : Nat} {sp : Sp} (I : Inv X pins σ H s) (ea : H a = some (.ins C dx gs)) (c : Cls X.K C) (hp : PropOf X.K C f p q)
    (F : FnR X.prog X.w X.K X.mg X.base (L2.CX X.prog X.w) j q sp) (hr : Room (j + 1) X.A) (h : sp [.ref a] H Q (fun _ _ _ => False)) : wpAny (model X.prog X.w) X.A (getAttr (.ref a) f b) (EP X pins σ Q) X.xe s := by
  obtain ⟨mA, O, _, _, _, _⟩ := ins_get I.hok ea
  obtain ⟨od, J, _⟩ := O.look
  obtain ⟨rest, hrec⟩ := hp.rec_
  have I1 := I.tok (s.toks + 1)
  have hcl : (PySem.W.clsIn X.K C).isSome = true := by
    obtain ⟨cd, z, _⟩ := PySem.W.any_some c.hd
    rw [z]; rfl
  have body : ∀ {R : Result → Shared → Prop}, (∀ r s', CR (L2.CX X.prog X.w) X.stack X.prog X.w H { s with toks := s.toks + 1 } Q (fun _ _ _ => False) r s' → R r s') → codeAny (model X.prog X.w) X.A.in1 (.call (.ref q) ⟨[.ref a], []⟩) R { s with toks := s.toks + 1 } :=
    fun hR => codeAny_mono (F X.A.in1 X.stack _ H [.ref a] [.ref a] Q _ hr.in1 I1.env0.in1 (.cons rfl .nil) h) hR
  refine PySem.W.get_bind I.kIn J (PySem.W.plainGet_of (c.get f)).1 (PySem.W.findObj_data hcl hp.at_ hp.get hp.tak) (PySem.W.plainGet_of (c.get f)).2 (wpAny_call (PySem.W.prop_get (s := { s with toks := s.toks + 1 }) I.kIn hrec (body fun r s' hq => ?_)))
  cases r with
  | error e => exact False.elim ((takes0 (X := X.nox)) e s' (XE.of_call (X := X.nox) (W := fun _ _ _ _ => False) (I1.wish _) (fun _ _ _ h => h) hq))
  | ok fl =>
    cases fl with
    | ret u =>
      obtain ⟨v, H', I3, rv, q3⟩ := I1.after hq
      show wpAny _ _ (handedOut u) _ _ _
      rw [PySem.W.handedOut_of (handed_of rv)]
      exact wpAny_pure ⟨v, H', I3, rv, q3⟩
    | next => exact False.elim hq
    | brk => exact False.elim hq
    | cont => exact False.elim hq
theorem sim_prop (c : Nat) {e : Expr} {f : Str} {m : ME} {pos : Pos} {g : List Vl → Hs → Rs Vl} (F : PropF T X k c f g) (Z : ClsF T X.K c) (hr : Room k X.A) (he : SimE T X W e m) (hb : attributeBase e f X.env (eval e X.env) = eval e X.env := by rfl) : SimE T X W (.Attribute e f pos) (mProp c g m) := by
  obtain ⟨j, p, q, hj, hp, Fq⟩ := F.ex
  refine ⟨fun pins s σ H Q I h => ?_⟩
  have h2 : tr T X.K W m σ H fun x H1 => ∃ a dx gs, x = .ref a ∧ H1 a = some (.ins (T.cls c) dx gs) ∧ spF T X.K g [.ref a] H1 Q (fun _ _ _ => False) := by
    obtain ⟨S, M, h, sr, hr, p⟩ := h
    refine tr_then sr hr p fun v h1 M1 H1 x e1 sr1 hr1 r1 p1 => ?_
    split at p1
    · rename_i c' fs q
      split at p1
      · rename_i hc
        subst hc
        obtain ⟨a, dx, gs, rfl, z, nm, ra⟩ := r1.fld hr1 q
        exact ⟨a, dx, gs, rfl, z, [v], M1, h1, .cons r1 .nil, hr1, post_quiet p1⟩
      · exact p1.elim
    · exact p1.elim
  refine attr_of hb (thn (he.run pins s σ H _ I h2) fun u s1 ⟨x, H1, I1, rx, a, dx, gs, ex, ea, z⟩ => ?_)
  subst ex
  obtain rfl : u = Value.ref a := rx
  exact run_prop I1 ea Z.cl hp Fq (hr.mono hj) z

/-! ### making an instance -/
structure MakeF (T : Tb) (X : Cx) (k c : Nat) (x : Str) (g : List Vl → Hs → Rs Vl) : Prop where
  ex : ∃ j a, j + 1 ≤ k ∧ Mk X.K (T.cls c) a ∧ FnR X.prog X.w X.K X.mg X.base (L2.CX X.prog X.w) j a (spF T X.K g) ∧ X.mg x = some (.ref (T.cls c))
def kMake (c : Nat) (fresh : Bool) (g : List Vl → Hs → Rs Vl) (vs : List Vl) (h : Hs) : Rs Vl := match g (.ref h.length :: vs) (h ++ [.ins c []]) with
  | some (.error e, h') => some (.error e, h'.take h.length)
  | some (.ok (.p .non), h') => backV fresh h.length (.ref h.length) h'
  | _ => none
theorem made_sp {c : Nat} {fresh : Bool} {g : List Vl → Hs → Rs Vl} {vs : List Vl} {xs : List V} {M : Trk} {H : Hp} {h : Hs} {Er : Nat → Hp → Prop} {Q : VK} {E : XK} (hr : HR T X.K M H h) (r : RVA T X.K M H vs xs) (hE : ∀ e H', Er e H' → E (.ref (T.exc e)) none H')
    (p : post T X.K (RV T X.K) M H Er Q (kMake c fresh g vs h)) {x dx : Addr} (hx : H x = none) (hd : H dx = none) (ne : dx ≠ x) :
    spF T X.K g (V.ref x :: xs) (L2.upd (L2.upd H dx (.own x)) x (.ins (T.cls c) dx [])) (fun v H2 => v = .non ∧ Q (.ref x) H2) E := by
  have hx' : L2.upd H dx (.own x) x = none := by rw [upd_ne (fun z => ne z.symm)]; exact hx
  have e1 : Ext M H M (L2.upd H dx (.own x)) := .fresh hd
  have e2 : Ext M (L2.upd H dx (.own x)) (M.add x) (L2.upd (L2.upd H dx (.own x)) x (.ins (T.cls c) dx [])) := .track hx'
  have e := e1.trans e2
  have hr2 : HR T X.K (M.add x) (L2.upd (L2.upd H dx (.own x)) x (.ins (T.cls c) dx [])) (h ++ [.ins c []]) :=
    (hr.fresh hd).track hx' (.ins upd_same (by simp) (by simpa using RpA.nil))
  refine ⟨.ref h.length :: vs, M.add x, _, .cons (.ref (hr.newest x)) (r.ext e), hr2, ?_⟩
  unfold kMake at p
  split at p
  · rename_i q
    rw [q]
    exact fun M' H' e' hr' => hE _ _ (p M H' (e.trans e').cut (HR.cut (e.trans e') hr hr'))
  · rename_i q
    rw [q]
    intro M' H' y e' hr' ry
    cases ry with
    | p ry =>
      cases ry
      refine ⟨rfl, post_back (e.trans e') hr hr' (.ref (e'.get (hr.newest x))) p⟩
  · exact p.elim
theorem sim_make (c : Nat) (fresh : Bool) {x : Str} {p pos : Pos} {e : Expr} {es : List Expr} {a : MA} {g : List Vl → Hs → Rs Vl} (F : MakeF T X k c x g) (tk : Takes X W) (hr : Room k X.A) (hg : Gl X x) (ha : SimA T X W (e :: es) a) (hd : (x == ("__debug__" : Str)) = false := by decide)
    (he : starEach (e :: es) X.env = (false, eval e X.env) :: starEach es X.env := by rfl) (hpl : (backTo pos (starEach es X.env)).any (·.1) = false := by rfl) : SimE T X W (.Call (.Name x p) (e :: es) [] pos) (mAll (kMake c fresh g) a) := by
  obtain ⟨j, q, hj, MK, Fq, hm⟩ := F.ex
  refine ⟨fun pins s σ H Q I h => wpAny_Call_Name_kw (ld_glob I hg hm ?_ hd)⟩
  have h2 : trA T X.K W a σ H fun vs H1 => ∀ x dx, H1 x = none → H1 dx = none → dx ≠ x → spF T X.K g (V.ref x :: vs) (L2.upd (L2.upd H1 dx (.own x)) x (.ins (T.cls c) dx [])) (fun v H2 => v = .non ∧ Q (.ref x) H2) (fun cc d H' => W cc d σ H') := by
    obtain ⟨S, M, h, sr, hr, p⟩ := h
    exact trA_then sr hr p fun vs h1 M1 H1 xs e1 sr1 hr1 r1 p1 x dx hx hd ne => made_sp hr1 r1 (fun _ _ z => z) p1 hx hd ne
  refine PySem.W.callWith_K (h₀ := X.base) I.ok.mod.kin MK.kp (thn (ha.run pos pins s σ H _ I h2) fun us s1 ⟨vs, H1, I1, r, z⟩ => ⟨I1.kIn, ?_⟩) he hpl
  exact run_made MK Fq (hr.mono hj) tk I1 r z
where
  run_made {pins : List (Addr × Obj)} {σ : L2.St} {H : Hp} {s : Shared} {Q : VK} {us : List Value} {vs : List V} {C q : Addr} {j : Nat} {sp : Sp} (MK : Mk X.K C q) (F : FnR X.prog X.w X.K X.mg X.base (L2.CX X.prog X.w) j q sp) (hr : Room (j + 1) X.A) (tk : Takes X W) (I : Inv X pins σ H s) (r : Vals vs us)
      (h : ∀ x dx, H x = none → H dx = none → dx ≠ x → sp (V.ref x :: vs) (L2.upd (L2.upd H dx (.own x)) x (.ins C dx [])) (fun v H2 => v = .non ∧ Q (.ref x) H2) (fun cc d H' => W cc d σ H')) :
      wpAny (model X.prog X.w) X.A (call (.ref C) us) (EP X pins σ Q) X.xe s := by
    exact run_makeT MK F hr tk I r h
  run_makeT {pins : List (Addr × Obj)} {σ : L2.St} {H : Hp} {s : Shared} {Q : VK} {us : List Value} {vs : List V} {C q : Addr} {j : Nat} {sp : Sp} (MK : Mk X.K C q) (F : FnR X.prog X.w X.K X.mg X.base (L2.CX X.prog X.w) j q sp) (hr : Room (j + 1) X.A) (tk : Takes X W) (I : Inv X pins σ H s) (r : Vals vs us)
      (h : ∀ x dx, H x = none → H dx = none → dx ≠ x → sp (V.ref x :: vs) (L2.upd (L2.upd H dx (.own x)) x (.ins C dx [])) (fun v H2 => v = .non ∧ Q (.ref x) H2) (fun cc d H' => W cc d σ H')) :
      wpAny (model X.prog X.w) X.A (call (.ref C) us) (EP X pins σ Q) X.xe s := by
    have n1 := I.hok.fresh (Nat.le_succ _)
    have n0 := I.hok.fresh (Nat.le_refl _)
    have J := Inv.made (C := C) I
    have z := h _ _ n1 n0 (Nat.ne_of_lt (Nat.lt_succ_self _))
    have rr : Vals (V.ref (s.heap.objs.size + 1) :: vs) (Value.ref (s.heap.objs.size + 1) :: us) := .cons rfl r
    have go := F _ X.stack _ _ (Value.ref (s.heap.objs.size + 1) :: us) _ _ _ (hr.make C us []) (J.env0.make C us []) rr z
    refine wpAny_call (make_map (f := q) I.kIn MK.makes MK.init (beq_iff_eq.mp MK.fn) (codeAny_mono go fun res s' hq' => ?_))
    cases res with
    | error er => exact tk er s' (XE.of_call J (fun _ _ _ y => y) hq')
    | ok fl =>
      cases fl with
      | next => exact False.elim hq'
      | brk => exact False.elim hq'
      | cont => exact False.elim hq'
      | ret u =>
        obtain ⟨v, H', I3, rv, ev, q3⟩ := J.after hq'
        subst ev
        exact ⟨rv, ⟨V.ref _, H', I3, rfl, q3⟩⟩
end

/-! ### def f(a, .., *v) -/
def fnRunStar (np n : Nat) (fresh : Bool) (b : MS) (args : List Vl) (h : Hs) : Rs Vl := match pures (args.drop np) with
  | some ds => if np ≤ args.length ∧ ds.length ≤ 16777216 then fnRun (np + 1) n fresh b (args.take np ++ [.p (.tup ds)]) h else none
  | none => none
theorem RVA.take {T : Tb} {K : PySem.W.Frag} {M : Trk} {H : Hp} : ∀ {ds : List Vl} {vs : List V} (n : Nat), RVA T K M H ds vs → RVA T K M H (ds.take n) (vs.take n)
  | _, _, 0, _ => .nil
  | _, _, _ + 1, .nil => .nil
  | _, _, n + 1, .cons h r => .cons h (RVA.take n r)
theorem RVA.drop {T : Tb} {K : PySem.W.Frag} {M : Trk} {H : Hp} : ∀ {ds : List Vl} {vs : List V} (n : Nat), RVA T K M H ds vs → RVA T K M H (ds.drop n) (vs.drop n)
  | _, _, 0, r => r
  | _, _, _ + 1, .nil => .nil
  | _, _, n + 1, .cons _ r => RVA.drop n r
section
variable {P : Program} {w : World} {K : PySem.W.Frag} {mg : Str → Option Value} {base : Heap} {T : Tb}
theorem fn_simStar {x qual : Str} {st : Stmt} {f : Addr} {fd : FuncData} {N ps : List Str} {pv : Str} {k : Nat} {b : MS} {fresh : Bool} (F : Fun K x qual st f fd) (S : FnScope N (ps ++ [pv]) (defScope st))
    (hb : ∀ (kV doc pm : Value) (an : Option Addr) (cdv ct : Value) (us rest : List Value), us.length = ps.length → bindArgs (PySem.W.fnOf x qual (defArgs st) (defBody st) (defScope st) .none kV doc pm an cdv ct) ⟨us ++ rest, []⟩ = (newTuple rest >>= fun t => pure (ps.zip us ++ [(pv, t)])))
    (hbody : ∀ (cdv : Value) (A : Around) (outer : List Env) (s : Shared) (H : Hp) (E : XK), Room k (A.deeper (envOfC qual (defScope st) s.heap.objs.size f cdv)) →
      PassesOwn (model P w) (A.deeper (envOfC qual (defScope st) s.heap.objs.size f cdv)) (envOfC qual (defScope st) s.heap.objs.size f cdv) (cxOf (L2.CX P w) P w K mg base N qual (defScope st) f cdv A outer s H E).xe →
      Takes (cxOf (L2.CX P w) P w K mg base N qual (defScope st) f cdv A outer s H E) (fun cls d _ H => E cls d H) →
      SimSs T (cxOf (L2.CX P w) P w K mg base N qual (defScope st) f cdv A outer s H E) (fun cls d _ H => E cls d H) (defBody st) b) :
    FnR P w K mg base (L2.CX P w) (k + 1) f (spF T K (fnRunStar ps.length N.length fresh b)) := by
  obtain ⟨oc, od, kV, doc, pm, an, cdv, ct, osl, rfl, lk, hcd⟩ := F.ex
  have G := StX.fn_star (k := k) (sp := fun vs H Q E => vs.length = ps.length + 1 ∧ spF T K (fnRun (ps.length + 1) N.length fresh b) vs H Q E) (P := P) (w := w) (mg := mg) (base := base) (CX := L2.CX P w) lk hcd S StX.cxUp (hb kV doc pm an cdv ct) (fun A outer s H vs Q E hr h => ?_)
  · refine G.imp fun vs H Q E h => ?_
    obtain ⟨args, M, h', ra, hR, p⟩ := h
    unfold fnRunStar at p
    split at p
    · rename_i ds q
      split at p
      · rename_i hz
        have rd := (ra.drop ps.length).pures q
        have l2 : (vs.drop ps.length).length = ds.length := rd.length.symm
        have hvl : ps.length ≤ vs.length := by rw [← ra.length]; exact hz.1
        refine ⟨vs.take ps.length, vs.drop ps.length, (List.take_append_drop _ _).symm, by rw [List.length_take]; omega, by rw [l2]; exact le_line hz.2, fun t ht => ⟨by simp [List.length_take]; omega, ?_⟩⟩
        refine ⟨args.take ps.length ++ [.p (.tup ds)], M, h', ?_, hR.fresh ht, post.ext p (.fresh ht)⟩
        exact RVA.append ((ra.take ps.length).ext (.fresh ht)) (.cons (new_tup hR ht rd) .nil)
      · exact p.elim
    · exact p.elim
  · obtain ⟨hl, args, M, h, ra, hR, p⟩ := h
    refine ⟨_, hbody cdv A outer s H E hr (passes_of (X := cxOf (L2.CX P w) P w K mg base N qual (defScope st) f cdv A outer s H E) rfl) (takes_of rfl rfl rfl rfl), ?_⟩
    have ha : args.length = ps.length + 1 := by rw [ra.length]; exact hl
    refine ⟨args.map some ++ List.replicate (N.length - (ps.length + 1)) none, M, h, ?_, hR, ?_⟩
    · have q := sr_start (T := T) (K := K) (N.length - (ps.length + 1)) ra
      unfold L2.start
      rw [hl]
      exact q
    · unfold fnRun at p
      rw [if_pos ha] at p
      match e : b (args.map some ++ List.replicate (N.length - (ps.length + 1)) none) h, p with
      | some (.error c, S', h'), p => exact fun M' H' σ' e' hr' _ => p M H' e'.cut (HR.cut e' hR hr')
      | some (.ok .nx, S', h'), p => exact fun M' H' σ' e' hr' _ => p M H' _ e'.cut (HR.cut e' hR hr') (.p .non)
      | some (.ok (.rt v), S', h'), p => exact fun M' H' x e' hr' r' => post_back e' hR hr' r' p
end
end EV
end T11
section T12
set_option Elab.async false
set_option linter.all false
set_option maxRecDepth 100000
namespace EV
open PySem PySem.Spec PyProof.Rows L2

/-! ### sorted(xs), xs tuples of ints -/
def tupI1 : P → Option (List Int)
  | .tup ds => nums ds
  | _ => none
def tupsI : List P → Option (List (List Int))
  | [] => some []
  | d :: ds => match tupI1 d, tupsI ds with
    | some n, some l => some (n :: l)
    | _, _ => none
def mkT (ns : List Int) : P := .tup (ns.map .int)
theorem nums_eq : ∀ {ds : List P} {l : List Int}, nums ds = some l → ds = l.map .int
  | [], l, e => by simp only [nums, Option.some.injEq] at e; subst e; rfl
  | d :: ds, l, e => by
    cases d with
    | int i =>
      cases q : nums ds with
      | none => simp [nums, q] at e
      | some m =>
        simp [nums, q] at e
        subst e
        rw [nums_eq q]; rfl
    | _ => simp [nums] at e
theorem tupI1_eq {d : P} {n : List Int} (e : tupI1 d = some n) : d = mkT n := by
  unfold tupI1 at e
  split at e
  · rw [nums_eq e]; rfl
  · cases e
theorem tupsI_cons {d : P} {ds : List P} {l : List (List Int)} (e : tupsI (d :: ds) = some l) : ∃ n m, l = n :: m ∧ tupI1 d = some n ∧ tupsI ds = some m := by
  simp only [tupsI] at e
  split at e
  · rename_i n m a b
    cases e
    exact ⟨n, m, rfl, a, b⟩
  · cases e
theorem tupsI_mk {d : P} {ds : List P} {n : List Int} {m : List (List Int)} (a : tupI1 d = some n) (b : tupsI ds = some m) : tupsI (d :: ds) = some (n :: m) := by
  simp only [tupsI, a, b]
theorem tupsI_eq : ∀ {ds : List P} {l : List (List Int)}, tupsI ds = some l → ds = l.map mkT
  | [], l, e => by simp only [tupsI, Option.some.injEq] at e; subst e; rfl
  | d :: ds, l, e => by
    obtain ⟨n, m, rfl, a, b⟩ := tupsI_cons e
    rw [tupI1_eq a, tupsI_eq b]; rfl
theorem tupsI_perm {l m : List P} (p : l.Perm m) : ∀ {k : List (List Int)}, tupsI m = some k → ∃ k', tupsI l = some k' ∧ k'.Perm k := by
  induction p with
  | nil => exact fun e => ⟨_, e, .refl _⟩
  | cons x _ ih =>
    intro k e
    obtain ⟨n, r, rfl, a, b⟩ := tupsI_cons e
    obtain ⟨k', e', p'⟩ := ih b
    exact ⟨n :: k', tupsI_mk a e', .cons _ p'⟩
  | swap x y l =>
    intro k e
    obtain ⟨n, r, rfl, a, b⟩ := tupsI_cons e
    obtain ⟨n', r', rfl, a', b'⟩ := tupsI_cons b
    exact ⟨n' :: n :: r', tupsI_mk a' (tupsI_mk a b'), .swap _ _ _⟩
  | trans _ _ h1 h2 =>
    intro k e
    obtain ⟨k1, e1, p1⟩ := h2 e
    obtain ⟨k2, e2, p2⟩ := h1 e1
    exact ⟨k2, e2, p2.trans p1⟩
section
variable {T : Tb} {K : PySem.W.Frag} {M : Trk} {H : Hp}
theorem RpA.perm {ys xs : List V} (p : ys.Perm xs) : ∀ {ds : List P}, RpA T K M H ds xs → ∃ ds', RpA T K M H ds' ys ∧ ds'.Perm ds := by
  induction p with
  | nil => exact fun r => ⟨_, r, .refl _⟩
  | cons x _ ih =>
    intro ds r
    cases r with
    | cons h r =>
      obtain ⟨ds', r', p'⟩ := ih r
      exact ⟨_, .cons h r', .cons _ p'⟩
  | swap x y l =>
    intro ds r
    cases r with
    | cons h r =>
      cases r with
      | cons h' r => exact ⟨_, .cons h' (.cons h r), .swap _ _ _⟩
  | trans _ _ h1 h2 =>
    intro ds r
    obtain ⟨d1, r1, p1⟩ := h2 r
    obtain ⟨d2, r2, p2⟩ := h1 r1
    exact ⟨d2, r2, p2.trans p1⟩
theorem Rp.tupI {d : P} {x : V} {ns : List Int} (r : Rp T K M H d x) (e : tupI1 d = some ns) : TupI K H x ns := by
  have z := tupI1_eq e
  subst z
  cases r with
  | tup h ra =>
    have q := RpA.ints ra
    subst q
    exact ⟨_, rfl, h.sqT⟩
end
/-! the order -/
def ins1 (B : Int) (n : List Int) : List (List Int) → List (List Int)
  | [] => [n]
  | m :: l => if TS.code B n ≤ TS.code B m then n :: m :: l else m :: ins1 B n l
def sortC (B : Int) : List (List Int) → List (List Int)
  | [] => []
  | n :: l => ins1 B n (sortC B l)
theorem ins1_perm (B : Int) (n : List Int) : ∀ l, (ins1 B n l).Perm (n :: l)
  | [] => .refl _
  | m :: l => by
    unfold ins1
    split
    · exact .refl _
    · exact ((ins1_perm B n l).cons m).trans (.swap _ _ _)
theorem sortC_perm (B : Int) : ∀ l, (sortC B l).Perm l
  | [] => .refl _
  | n :: l => (ins1_perm B n _).trans ((sortC_perm B l).cons n)
abbrev SrtC (B : Int) (l : List (List Int)) : Prop := l.Pairwise fun n m => TS.code B n ≤ TS.code B m
theorem ins1_srt (B : Int) (n : List Int) : ∀ {l}, SrtC B l → SrtC B (ins1 B n l)
  | [], _ => by simp [ins1]
  | m :: l, h => by
    have h' := List.pairwise_cons.mp h
    unfold ins1
    split
    · rename_i c
      refine List.pairwise_cons.mpr ⟨fun a ha => ?_, h⟩
      rcases List.mem_cons.mp ha with z | z
      · rw [z]; exact c
      · exact Int.le_trans c (h'.1 a z)
    · rename_i c
      refine List.pairwise_cons.mpr ⟨fun a ha => ?_, ins1_srt B n h'.2⟩
      rcases List.mem_cons.mp ((ins1_perm B n l).mem_iff.mp ha) with z | z
      · rw [z]; omega
      · exact h'.1 a z
theorem sortC_srt (B : Int) : ∀ l, SrtC B (sortC B l)
  | [] => List.Pairwise.nil
  | n :: l => ins1_srt B n (sortC_srt B l)
theorem srt_uniq {B : Int} : ∀ {l m : List (List Int)}, l.Perm m → SrtC B l → SrtC B m → (∀ x ∈ l, ∀ y ∈ l, TS.code B x = TS.code B y → x = y) → l = m
  | [], m, p, _, _, _ => by rw [List.nil_perm.mp p]
  | a :: l, m, p, h1, h2, inj => by
    cases m with
    | nil => exact absurd p.length_eq (by simp)
    | cons b m =>
      have h1' := List.pairwise_cons.mp h1
      have h2' := List.pairwise_cons.mp h2
      have e : a = b := by
        have ma : a ∈ b :: m := p.mem_iff.mp List.mem_cons_self
        have mb : b ∈ a :: l := p.mem_iff.mpr List.mem_cons_self
        rcases List.mem_cons.mp ma with z | z
        · exact z
        · rcases List.mem_cons.mp mb with y | y
          · exact y.symm
          · exact inj a List.mem_cons_self b mb (Int.le_antisymm (h1'.1 b y) (h2'.1 a z))
      subst e
      rw [srt_uniq (List.Perm.cons_inv p) h1'.2 h2'.2 fun x hx y hy => inj x (List.mem_cons_of_mem _ hx) y (List.mem_cons_of_mem _ hy)]
theorem code_bd {B : Int} (hB : 0 ≤ B) : ∀ {ns : List Int}, TS.Bd B ns → 0 ≤ TS.code B ns ∧ TS.code B ns < B ^ ns.length
  | [], _ => by simp [TS.code]
  | d :: r, h => by
    obtain ⟨a, b⟩ := code_bd hB h.tail
    obtain ⟨c0, c1⟩ := TS.num1 a b h.head.1 h.head.2
    exact ⟨c0, by rw [List.length_cons, Int.pow_succ]; exact c1⟩
theorem code_inj {B : Int} (hB : 0 ≤ B) : ∀ {ns ms : List Int}, ns.length = ms.length → TS.Bd B ns → TS.Bd B ms → TS.code B ns = TS.code B ms → ns = ms
  | [], [], _, _, _, _ => rfl
  | d :: r, d' :: r', hl, h, h', e => by
    have hl' : r.length = r'.length := by simpa using hl
    obtain ⟨a, b⟩ := code_bd hB h.tail
    obtain ⟨a', b'⟩ := code_bd hB h'.tail
    have e : d * B ^ r.length + TS.code B r = d' * B ^ r'.length + TS.code B r' := e
    rw [← hl'] at e b'
    have hd : d = d' := by
      rcases Int.lt_trichotomy d d' with c | c | c
      · exfalso
        have : (d + 1) * B ^ r.length ≤ d' * B ^ r.length := Int.mul_le_mul_of_nonneg_right (by omega) (by omega)
        rw [Int.add_mul, Int.one_mul] at this
        omega
      · exact c
      · exfalso
        have : (d' + 1) * B ^ r.length ≤ d * B ^ r.length := Int.mul_le_mul_of_nonneg_right (by omega) (by omega)
        rw [Int.add_mul, Int.one_mul] at this
        omega
    subst hd
    rw [code_inj hB hl' h.tail h'.tail (by omega)]
def okT (B : Int) (d : Nat) (l : List (List Int)) : Bool := l.all fun ns => (ns.length == d) && ns.all fun m => decide (0 ≤ m) && decide (m < B)
theorem okT_at {B : Int} {d : Nat} {l : List (List Int)} (h : okT B d l = true) {ns : List Int} (m : ns ∈ l) : ns.length = d ∧ TS.Bd B ns := by
  have q := List.all_eq_true.mp h ns m
  simp only [Bool.and_eq_true, beq_iff_eq, List.all_eq_true, decide_eq_true_eq] at q
  exact ⟨q.1, q.2⟩
def kSortT (B : Nat) (vs : List Vl) (h : Hs) : Rs Vl := match vs with
  | [v] => match lstV v h with
    | some ds => match tupsI ds with
      | some l => if ds.length < 64 ∧ 1 ≤ (l.headD [0]).length ∧ okT B (l.headD [0]).length l = true then ret (.p (.lst ((sortC B l).map mkT))) h else none
      | none => none
    | none => none
  | _ => none
section
variable {T : Tb} {X : Cx} {W : WX}
abbrev rSortX (K : PySem.W.Frag) (B : Nat) : List V → Hp → VK → Prop := fun xs H Q => ∃ d, 1 ≤ d ∧ rSortU K d B xs H Q
theorem srtd_of {K : PySem.W.Frag} {M : Trk} {H : Hp} {B : Int} : ∀ {ds : List P} {ys : List V} {l : List (List Int)}, RpA T K M H ds ys → tupsI ds = some l → ys.Pairwise (fun x y => ∀ n m, TupI K H x n → TupI K H y m → TS.code B n ≤ TS.code B m) → SrtC B l
  | [], _, l, _, e, _ => by simp only [tupsI, Option.some.injEq] at e; subst e; exact List.Pairwise.nil
  | d :: ds, _, l, .cons h r, e, p => by
    obtain ⟨n, m, rfl, a, b⟩ := tupsI_cons e
    have p' := List.pairwise_cons.mp p
    refine List.pairwise_cons.mpr ⟨fun k hk => ?_, srtd_of r b p'.2⟩
    have z := tupsI_eq b
    subst z
    obtain ⟨i, hi⟩ := List.getElem?_of_mem hk
    obtain ⟨y, hy, ry⟩ := r.get (i := i) (d := mkT k) (by rw [List.getElem?_map, hi]; rfl)
    refine p'.1 y (List.mem_of_getElem? hy) n k (h.tupI a) (ry.tupI ?_)
    have := @nums_map k
    exact this
where
  nums_map : ∀ (k : List Int), nums (k.map P.int) = some k
    | [] => rfl
    | i :: k => by simp [nums, nums_map k]
theorem s_sortT {B : Nat} : OpN T X.K (kSortT B) (rSortX X.K B) := by
  intro M H h vs xs Er Q hr r p
  unfold kSortT at p
  split at p
  · split at p
    · rename_i ds e
      split at p
      · rename_i l el
        split at p
        · rename_i hz
          cases r with
          | cons r1 r2 =>
            cases r2
            obtain ⟨a, ys, rfl, hs, ra⟩ := r1.lstV hr e
            refine ⟨(l.headD [0]).length, hz.2.1, a, ys, rfl, hs, by rw [← ra.length]; exact hz.1, fun x hx => ?_, fun zs q pz pw hq => ?_⟩
            · obtain ⟨i, hi⟩ := List.getElem?_of_mem hx
              obtain ⟨d, hd, rd⟩ := ra.get' hi
              have eq := tupsI_eq el
              rw [eq, List.getElem?_map] at hd
              cases hl : l[i]? with
              | none => rw [hl] at hd; cases hd
              | some ns =>
                rw [hl] at hd
                cases hd
                exact ⟨ns, rd.tupI (srtd_of.nums_map ns), okT_at hz.2.2 (List.mem_of_getElem? hl)⟩
            · obtain ⟨ds', rz, pd⟩ := ra.perm pz
              obtain ⟨l', el', pl⟩ := tupsI_perm pd el
              have s1 := srtd_of rz el' pw
              have e2 : l' = sortC B l := by
                refine srt_uniq (pl.trans (sortC_perm B l).symm) s1 (sortC_srt B l) fun x hx y hy e => ?_
                obtain ⟨a1, a2⟩ := okT_at hz.2.2 (pl.mem_iff.mp hx)
                obtain ⟨b1, b2⟩ := okT_at hz.2.2 (pl.mem_iff.mp hy)
                exact code_inj (by omega) (a1.trans b1.symm) a2 b2 e
              have e3 := tupsI_eq el'
              rw [e2] at e3
              rw [e3] at rz
              exact p.ret (.fresh hq) (hr.fresh hq) (new_lst hr hq rz)
        · exact p.elim
      · exact p.elim
    · exact p.elim
  · exact p.elim
theorem sim_sortT (B : Nat) {e : Expr} {a : MA} {p pos : Pos} (hm : X.mg "sorted" = none) (hb : bootBuiltins "sorted" = some (.builtin "sorted")) (ha : SimA T X W [e] a) (hg : Gl X "sorted" := by rfl)
    (he : starEach [e] X.env = (false, eval e X.env) :: starEach [] X.env := by rfl) : SimE T X W (.Call (.Name "sorted" p) [e] [] pos) (mAll (kSortT B) a) :=
  sim_callB (r := rSortX X.K B) (fun pins s σ H xs us Q I r ⟨d, hd, h⟩ => cr_sortT hd pins s σ H xs us Q I r h) s_sortT hg hm hb ha (he := he) (hpl := rfl)
/-! ### defs as values -/
theorem sim_fnV (i : Nat) {x : Str} {pos : Pos} (hm : X.mg x = some (.ref (T.fns i))) (hg : Gl X x := by rfl) (hd : (x == ("__debug__" : Str)) = false := by decide) : SimE T X W (.Name x pos) (mC (.fn i)) :=
  PE.weak (pe_glob (v := .ref (T.fns i)) hg hm rfl hd) fun σ H Q ⟨_, _, _, _, hr, p⟩ => p.ret .refl hr (.p (.fn i))
structure FnV (T : Tb) (X : Cx) (k : Nat) (F : FnsT) (i : Nat) : Prop where
  run : FnR X.prog X.w X.K X.mg X.base (L2.CX X.prog X.w) k (T.fns i) (spF T X.K (F i))
  kp : PySem.W.keepIn X.K (.ref (T.fns i)) = true
def mCallL (j : Nat) (ns : List Nat) (F : FnsT) (a : MA) : ME := fun S h => match S[j]? with
  | some (some (.p (.fn i))) => if i ∈ ns then mAll (F i) a S h else none
  | _ => none
theorem sim_callL (j : Nat) {ns : List Nat} {F : FnsT} {k : Nat} {x : Str} {p pos : Pos} {e : Expr} {es : List Expr} {a : MA} (Z : ∀ i ∈ ns, FnV T X k F i) (tk : Takes X W) (hr : Room k X.A) (ha : SimA T X W (e :: es) a) (hN : X.N[j]? = some x := by rfl)
    (hv : Vis X.env.scope x := by first | exact Or.inl rfl | exact Or.inr (Or.inl rfl) | exact Or.inr (Or.inr rfl)) (hdb : (x == ("__debug__" : Str)) = false := by decide) (hcd : (x == ("__classdict__" : Str)) = false := by decide)
    (he : starEach (e :: es) X.env = (false, eval e X.env) :: starEach es X.env := by rfl) (hpl : (backTo pos (starEach es X.env)).any (·.1) = false := by rfl) : SimE T X W (.Call (.Name x p) (e :: es) [] pos) (mCallL j ns F a) := by
  refine ⟨fun pins s σ H Q I ⟨S, M, h, sr, hR, pp⟩ => ?_⟩
  unfold mCallL at pp
  split at pp
  · rename_i i ei
    split at pp
    · rename_i hi
      obtain ⟨y, ey, ry⟩ := sr.at' j _ ei
      cases ry with
      | p ry =>
        cases ry
        have V := Z i hi
        refine wpAny_Call_Name_kw (thn ((pe_var (pos := p) hN hv hdb hcd).run pins s σ H (fun v H1 => v = .ref (T.fns i) ∧ H1 = H) I ⟨_, ey, rfl, rfl⟩) fun u s1 ⟨v, H1, I1, r1, q1⟩ => ?_)
        obtain ⟨rfl, rfl⟩ := q1
        cases r1
        refine PySem.W.callWith_K (h₀ := X.base) I1.ok.mod.kin V.kp (thn (ha.run pos pins s1 σ _ _ I1 (trA_spF ⟨S, M, h, sr, hR, pp⟩)) fun us s2 ⟨vs, H2, I2, r, q⟩ => ⟨I2.kIn, ?_⟩) he hpl
        exact run_own V.run tk hr I2 r q
    · exact pp.elim
  · exact pp.elim
end
end EV
end T12
section T13
set_option Elab.async false
set_option linter.all false
set_option maxRecDepth 100000
namespace EV
open PySem PySem.Spec PyProof.Rows L2

/-! ### enumerate(v) of whatever begins -/
set_option maxHeartbeats 1000000 in
theorem enum_meets1 {v : Value} {io : Obj} {G : Heap → Prop} (B : Begins v io G) :
    Meets (Builtin.«enumerate.__new__» ⟨[.type "enumerate", v], []⟩) (fun _ R s => G s.heap ∧
      R (.ok (.ret (.ref (s.heap.push io).objs.size))) { s with heap := (s.heap.push io).push { cls := .type "enumerate", data := .fields #[.none, .bool false, .ref s.heap.objs.size, rawInt 0, .none, .none] } }) :=
  .of_wp fun prog w A R s hs => by
    obtain ⟨hp, g, d, tk, os⟩ := s
    obtain ⟨g0, hs⟩ := hs
    have sub := sub_enumerate
    have it1 : ∀ {A' : Around} {E : Value → Shared → Prop} {Q : Value → Shared → Prop}, Q (.ref hp.objs.size) ⟨hp.push io, g, d, tk, os⟩ → wpAny (model prog w) A' (pyIter v) Q E ⟨hp, g, d, tk, os⟩ :=
      fun q => B.iter prog w _ _ ⟨hp, g, d, tk, os⟩ _ g0 q
    wp_walk
    refine wpAny_stack_any fun st => wpAny_pure ?_
    split
    · rename_i c _ _ _ _ _
      cases (c == Value.type "enumerate") <;> (wp_walk using it1; exact ⟨_, rfl, hs⟩)
    · wp_walk using it1
      exact ⟨_, rfl, hs⟩
theorem enum_call1 {prog : Program} {w : World} {A : Around} {E : Value → Shared → Prop} {s : Shared} {v : Value} {io : Obj} {G : Heap → Prop} {Q : Value → Shared → Prop} (B : Begins v io G) (g0 : G s.heap)
    (next : ∀ h', IsEnum h' (s.heap.objs.size + 1) s.heap.objs.size 0 .none → h'.get? s.heap.objs.size = some io → h'.objs.size = s.heap.objs.size + 2 → (∀ b o, s.heap.get? b = some o → h'.get? b = some o) → Q (.ref (s.heap.objs.size + 1)) { s with heap := h' }) :
    wpAny (model prog w) A (call (.type "enumerate") [v]) Q E s := by
  refine callType_new F.called_enumerate (by decide) (F.typeCall_enumerate_1 _) (F.newCall_enumerate_1 _) (fun obj => F.args_object_init_2 obj _) F.entry_enumerate_new (enum_meets1 B) ⟨g0, ?_⟩
  have z1 : (s.heap.push io).objs.size = s.heap.objs.size + 1 := Heap.size_push ..
  generalize hE : ({ cls := .type "enumerate", data := .fields #[.none, .bool false, .ref s.heap.objs.size, rawInt 0, .none, .none] } : Obj) = eo
  have at1 : ((s.heap.push io).push eo).get? (s.heap.objs.size + 1) = some eo := by
    have q := Heap.get?_push_size (s.heap.push io) (o := eo) (by rw [← hE]; rfl)
    rw [z1] at q; exact q
  have isE : IsEnum ((s.heap.push io).push eo) (s.heap.objs.size + 1) s.heap.objs.size 0 .none := by rw [← hE] at at1 ⊢; exact at1
  show _ ∧ _
  rw [z1]
  exact ⟨⟨_, isE, rfl⟩, next _ isE (Heap.get?_push_of_some _ (Heap.get?_push_size _ B.free)) (by rw [Heap.size_push, z1]) fun b o x => Heap.get?_push_of_some _ (Heap.get?_push_of_some _ x)⟩

/-! ### enumerate(tuple) in a walk -/
def ItEt (a : Addr) (xs : List V) : It :=
  ⟨fun i H => H a = some (.tup xs) ∧ i < xs.length, fun i H v H' => ∃ t x, v = .ref t ∧ H t = none ∧ H' = upd H t (.tup [.int (i : Nat), x]) ∧ xs[i]? = some x, fun i H => H a = some (.tup xs) ∧ xs.length ≤ i⟩
theorem turn_enumT {P : Program} {w : World} {K : PySem.W.Frag} {elts : List Expr} {kk : Nat} {tpos : Pos} (a e it : Addr) (xs : List V) :
    Turn P w K (.Tuple elts kk tpos) (ItEt a xs) [e, it] e (fun i h => (∃ old, IsEnum h e it (0 + ((i : Nat) : Int)) old) ∧ h.IsTupleIter it a i ∧ e ≠ it) where
  mem := by simp
  self := fun A i s Q E st q => by
    obtain ⟨⟨_, z⟩, _⟩ := st
    exact wpAny_pyIter_enum z q
  obj := fun i h st b hb => by
    obtain ⟨⟨old, z⟩, ⟨o, ho, _, hd⟩, _⟩ := st
    rcases (show b = e ∨ b = it by simpa using hb) with y | y <;> subst y
    · exact ⟨_, z, fun v q => nomatch q⟩
    · exact ⟨o, ho, fun v q => by rw [hd] at q; cases q⟩
  keep := fun i h h' st kp => by
    obtain ⟨⟨old, z⟩, y, ne⟩ := st
    exact ⟨⟨old, kp e (by simp) _ z⟩, y.at fun o q => kp it (by simp) o q, ne⟩
  item := by
    intro X hP hw hK hc i pins s σ H E I free st go
    subst hP hw hK
    obtain ⟨⟨old, z⟩, y, ne⟩ := st
    obtain ⟨ha, hi⟩ := go
    obtain ⟨its, rv, tp, _⟩ := I.tuple (.inl (.of ha))
    have nai : a ≠ it := fun q => by
      have := (free it (by simp)).1
      rw [← q, ha] at this; cases this
    have nae : a ≠ e := fun q => by
      have := (free e (by simp)).1
      rw [← q, ha] at this; cases this
    have hd3 : X.A.in1.handled = none := by simpa using I.ok.hd hc
    have D := Draws.tuple (prog := X.prog) (w := X.w) hd3 it a nai its.toArray
    have lt1 : e < s.heap.objs.size := Heap.lt_size z
    have lt2 : it < s.heap.objs.size := by obtain ⟨_, q, _⟩ := y; exact Heap.lt_size q
    have sz : i < its.toArray.size := by simpa [← rv.length] using hi
    refine wpAny_pyNext_enum_itemC D z ⟨y, tp⟩ sz ne (by simp [ne, Ne.symm nae]) fun u h1 tk pu out st1 new hsz kp => ?_
    refine ⟨_, rfl, wpAny_letOwnedTupleGo_enum out fun h2 z2 sb => ?_⟩
    obtain ⟨x, hx, rx⟩ : ∃ x, xs[i]? = some x ∧ RelV x u := by
      have pu' : its[i]? = some u := by simpa using pu
      refine ⟨xs[i], List.getElem?_eq_getElem hi, ?_⟩
      obtain ⟨u', e1, r1⟩ := rv.get (List.getElem?_eq_getElem hi)
      rw [pu'] at e1
      cases e1
      exact r1
    have nw : h2.get? s.heap.objs.size = some { cls := .type "tuple", data := .seq #[.int (0 + (i : Int)) tk, u] } := (sb.2 _ (Nat.ne_of_gt lt1)).trans new
    have ok : ObjOk X.prog X.w (upd H s.heap.objs.size (.tup [.int (i : Nat), x])) h2 s.heap.objs.size (.tup [.int (i : Nat), x]) :=
      ⟨by show 2 ≤ sizeLine; decide, [.int (0 + (i : Int)) tk, u], .cons ⟨tk, by rw [Int.zero_add]⟩ (.cons rx .nil), ⟨_, nw, rfl, _, rfl⟩⟩
    have J : Inv X pins σ (upd H s.heap.objs.size (.tup [.int (i : Nat), x])) { s with heap := h2, toks := tk + 1 } :=
      I.turnedNew (ch := [e, it]) (fun b ob hb q => (sb.2 b (fun m => hb (by simp [m]))).trans (kp b ob (fun m => hb (by simp [m])) (fun m => hb (by simp [m])) q)) free (Nat.le_refl _) ok
    refine ⟨.ref s.heap.objs.size, _, J, rfl, ⟨_, x, rfl, I.hok.fresh (Nat.le_refl _), rfl, hx⟩, ⟨⟨u, ?_⟩, st1.1.at fun o q => (sb.2 it (Ne.symm ne)).trans q, ne⟩, fun b hb => ?_⟩
    · rw [show (0 : Int) + ((i + 1 : Nat) : Int) = 0 + (i : Int) + 1 by omega]; exact z2
    · have lb : b < s.heap.objs.size := by
        rcases (show b = e ∨ b = it by simpa using hb) with m | m <;> (subst m; assumption)
      rw [upd_ne (Nat.ne_of_lt lb)]
      exact (free b hb).1
  done := by
    intro X hP hw hK hc i pins s σ H E I free st stop
    subst hP hw hK
    obtain ⟨⟨old, z⟩, y, ne⟩ := st
    obtain ⟨ha, hi⟩ := stop
    obtain ⟨its, rv, tp, _⟩ := I.tuple (.inl (.of ha))
    obtain ⟨f0, f1, f2, f3, f4, f5⟩ := free it (by simp)
    have hd3 : X.A.in1.in1.handled = none := by simpa using I.ok.hd hc
    obtain ⟨oi, hoi, hci, hdi⟩ := y
    obtain ⟨ot, hot, hct, nt, hdt⟩ := tp
    have h1 : X.A.handled = none := I.ok.hd hc
    have zz : its.toArray[i]? = none := by
      have q : its.length ≤ i := by rw [← rv.length]; exact hi
      simpa using q
    exact wpAny_pyNext_enum_endD (n := i) (P := fun _ _ => True) (fp := [it, a]) (St := fun j h => h.IsTupleIter it a j ∧ h.IsTuple a its.toArray ∧ j = i)
      { live := fun _ _ q => let ⟨o, ho, _⟩ := q.1; ⟨o, ho⟩
        frame := fun _ _ _ q kp => ⟨q.1.at fun o e => kp it (by simp) o e, q.2.1.at fun o e => kp a (by simp) o e, q.2.2⟩
        item := fun j s' Q' E' hj q _ => absurd q.2.2 (by omega)
        done := fun s' Q' E' q hE => wpAny_nextOf_tuple_end (by simpa using h1) q.1 q.2.1 zz hE } z ⟨⟨oi, hoi, hci, hdi⟩, ⟨ot, hot, hct, nt, hdt⟩, rfl⟩
      fun h' eb => ⟨rfl, I.turned (t' := s.toks) (fun b o hb q => eb b o hb q) f0 f1 f3 f4 f5⟩
def iEnT (ta : TA) : TI := fun σ H R => ta σ H fun vs H1 => ∃ a xs, vs = [.ref a] ∧ H1 a = some (.tup xs) ∧ R (ItEt a xs) H1
theorem pi_enumT {X : Cx} {e : Expr} {ta : TA} {p pos tpos : Pos} {elts : List Expr} {kk : Nat} (hg : Gl X "enumerate") (hm : X.mg "enumerate" = none) (ha : PA X [e] ta) (hs : starEach [e] X.env = [(false, eval e X.env)] := by rfl) :
    PI X (.Tuple elts kk tpos) (.Call (.Name "enumerate" p) [e] [] pos) (iEnT ta) := by
  refine ⟨fun pins s σ H R I h => Call_ (ld_blt I hg hm boot_enumerate (PyProof.Rows.callWith_type1 (thn (ha.run pos pins s σ H _ I h) fun us s1 ⟨vs, H1, I1, r1, a, xs, ev, hq, q⟩ => ?_) hs rfl))⟩
  subst ev
  cases r1 with
  | cons r rr =>
    cases rr
    cases r
    obtain ⟨its, rv, tp, _⟩ := I1.tuple (.inl (.of hq))
    refine enum_call1 (begins_tuple a its.toArray) tp fun h' he hit hsz hk => wpAny_pyIter_enum he ?_
    have J : Inv X pins σ H1 { s1 with heap := h' } := I1.kept (t' := s1.toks) hk
    refine ⟨s1.heap.objs.size + 1, [s1.heap.objs.size + 1, s1.heap.objs.size], _, _, H1, rfl, J, turn_enumT a (s1.heap.objs.size + 1) s1.heap.objs.size xs, ⟨⟨.none, he⟩, ⟨_, hit, rfl, rfl⟩, Nat.succ_ne_self _⟩, fun b hb => ?_, q⟩
    have le : s1.heap.objs.size ≤ b := by
      rcases (show b = s1.heap.objs.size + 1 ∨ b = s1.heap.objs.size by simpa using hb) with m | m
      · rw [m]; exact Nat.le_succ _
      · rw [m]; exact Nat.le_refl _
    exact I1.fpOk le (I1.hok.fresh le)
section
variable {T : Tb} {X : Cx} {W : WX}
def enumP (ds : List P) : List P := ds.mapIdx fun i d => .tup [.int i, d]
def iEnumT (a : MA) : MI := fun S h => bnd (a S h) fun vs h1 => match vs with
  | [.p (.tup ds)] => ret (.d (enumP ds)) h1
  | _ => none
theorem sim_iEnumT {e : Expr} {m : MA} {p pos tpos : Pos} {elts : List Expr} {kk : Nat} (hm : X.mg "enumerate" = none) (ha : SimA T X W [e] m) (hg : Gl X "enumerate" := by rfl) (hs : starEach [e] X.env = [(false, eval e X.env)] := by rfl) :
    SimI T X W (.Tuple elts kk tpos) (.Call (.Name "enumerate" p) [e] [] pos) (iEnumT m) := by
  refine PI.weak (pi_enumT hg hm ha hs) fun σ H Q ⟨S, M, h, sr, hr, p⟩ => trA_then sr hr p fun vs h1 M1 H1 xs e1 sr1 hr1 r1 p1 => ?_
  split at p1
  · cases r1 with
    | cons r1 r2 =>
      cases r2
      cases r1 with
      | p r1 =>
        cases r1 with
        | tup hl ra =>
          rename_i ds a ys
          refine ⟨a, ys, rfl, hl.1, p1.ret .refl hr1 (ItSim.of fun i M' H' e => ⟨fun d hd => ?_, fun hi => ?_⟩)⟩
          · have hl' := hl.ext e
            have hlt : i < ds.length := by
              have q := (List.getElem?_eq_some_iff.mp hd).1
              simpa [enumP] using q
            have hd' : ds[i]? = some ds[i] := List.getElem?_eq_getElem hlt
            obtain ⟨x, hx, rx⟩ := ra.get hd'
            have ed : d = .tup [.int i, ds[i]] := by
              unfold enumP at hd
              rw [List.getElem?_mapIdx, hd'] at hd
              exact (Option.some.inj hd).symm
            subst ed
            refine ⟨⟨hl'.1, by rw [← ra.length]; exact hlt⟩, fun y H'' h hr q => ?_⟩
            obtain ⟨t, x', rfl, ht, rfl, hx'⟩ := q
            have ex : x' = x := Option.some.inj (hx'.symm.trans hx)
            subst ex
            refine ⟨.fresh ht, hr.fresh ht, ?_⟩
            have z := new_tup hr ht (ds := [.int (i : Int), ds[i]]) (xs := [.int (i : Int), x']) (.cons (.int _) (.cons (rx.ext e) .nil))
            cases z with | p z => exact z
          · exact ⟨(hl.ext e).1, by rw [← ra.length]; simpa [enumP] using hi⟩
  · exact p1.elim
end
end EV
end T13
section T14
set_option Elab.async false
set_option linter.all false
set_option maxRecDepth 100000
set_option maxHeartbeats 1000000
namespace EV
open PySem PySem.Spec PyProof.Rows L2

/-! ### {k: v for ..} whose keys are tuples -/
section
variable {X : Cx}
/-- the comprehension's store -/
theorem putTup {pins : List (Addr × Obj)} {σ : L2.St} {H : Hp} {s : Shared} {E : Value → Shared → Prop} {D b : Addr} {ks : List Key} {kvs : List (List Key × V)} {z : V} {u : Value} {Q : Unit → Shared → Prop} (room : X.A.units < cLine) (I : Inv X pins σ H s)
    (atD : H D = some (.dT kvs)) (atb : H b = some (.tup (ks.map kV))) (few : kvs.length < sizeLine) (rz : RelV z u) (next : ∀ s', Inv X pins σ (L2.upd H D (.dT (putK kvs ks z))) s' → Q () s') :
    wpAny (model X.prog X.w) X.A (dictSet D (.ref b) u) Q E s := by
  obtain ⟨z0, nsys, xs, rel, dd⟩ := dt_of I.hok atD
  have len := Paired.length rel
  have few' : (putK kvs ks z).length ≤ sizeLine := by
    have q := length_putK kvs ks z
    omega
  refine wpAny_dictSet_heap (hsz := by omega) (knd := tupleKind (mixKind X.prog X.w)) room (key_of I.hok atb) dd fun h2 d2 same => next _ ?_
  obtain ⟨o, es, ep, e1, e2, e3, e4, _, e6⟩ := d2
  have rel2 : KT (L2.upd H D (.dT (putK kvs ks z))) (putK kvs ks z) (storedH xs ks b u) := (rel.put ks atb rz).keeps fun c ys ec => by
    rw [upd_ne (ne_of ec atD (fun q => nomatch q))]; exact ec
  exact d_write I (by rw [atD]; exact True.intro) same ⟨o, e1⟩ ⟨few', nsys, _, rel2, o, es, ep, e1, e2, e3, e4, e6⟩
/-- what is told: Wn i stands ahead of the i-th turn, n turns at the most -/
def tDcT (wi : TI) (g : TG) (tt : TT) (tk tv : TE) (vs : List Nat) : TE := fun σ H Q => wi σ H fun J H1 => ∀ D, H1 D = none → ∃ (Wn : Nat → Hp → Prop) (n : Nat), Wn 0 (L2.upd H1 D (.dT [])) ∧ ∀ i H', Wn i H' →
  (J.stop i H' ∧ Q (.ref D) H') ∨ (i < n ∧ J.go i H' ∧ ∀ x H2, J.yld i H' x H2 → g x (L2.wipe σ vs) H2 fun σ3 H3 => L2.wipe σ3 vs = L2.wipe σ vs ∧ tt σ3 H3 fun c H4 =>
    if c = true then tk σ3 H4 fun y H5 => tv σ3 H5 fun z H6 => ∃ kvs ks b, y = .ref b ∧ H6 D = some (.dT kvs) ∧ H6 b = some (.tup (ks.map kV)) ∧ kvs.length < sizeLine ∧ Wn (i + 1) (L2.upd H6 D (.dT (putK kvs ks z))) else Wn (i + 1) H4)
theorem pe_dcT {key val tg iter : Expr} {ifs : List Expr} {sco : Scope} {ow : List (Str × Nat)} {pos : Pos} {wi : TI} {g : TG} {tt : TT} {tk tv : TE} (room : X.A.units < cLine) (calm : X.calm = true) (nd : X.N.Nodup) (hi : PI X tg iter wi) (bo : BlkOk X.N X.env.scope sco ow)
    (pg : ∀ (s : Shared) (H : Hp) (C : Addr) (cl : List (Str × Addr)) (fp : List Addr), PG (X.blk s H sco (compEnvC sco cl C X.env) fp) tg g)
    (pt : ∀ (s : Shared) (H : Hp) (C : Addr) (cl : List (Str × Addr)) (fp : List Addr), PTs (X.blk s H sco (compEnvC sco cl C X.env) fp) ifs tt)
    (pk : ∀ (s : Shared) (H : Hp) (C : Addr) (cl : List (Str × Addr)) (fp : List Addr), PE (X.blk s H sco (compEnvC sco cl C X.env) fp) key tk)
    (pv : ∀ (s : Shared) (H : Hp) (C : Addr) (cl : List (Str × Addr)) (fp : List Addr), PE (X.blk s H sco (compEnvC sco cl C X.env) fp) val tv) (hs : ∀ x, foldedSetIterable iter X.env x = pure x := by intro _; rfl) :
    PE X (.DictComp key val [⟨tg, iter, ifs, 0⟩] sco pos) (tDcT wi g tt tk tv (ow.map (·.2))) := by
  refine ⟨fun pins s σ H Q I told => ?_⟩
  rw [arm_eval_DictComp]
  have frees : ∀ y ∈ sco.names, y.2 = .free → ∃ c, X.env.cells.lookup y.1 = some c := fun y hy e => (bo.free y hy e).elim (fun q => I.ok.has _ (.inl q)) fun q => I.ok.has _ (.inr q)
  refine wpAny_comprehension_free (use := none) rfl hs (closure_ok frees) bo.kind (fun y hy e => by rw [bo.uniq y hy, e]) (thn (hi.run pins s σ H _ I told) fun xv s1 hx => thn hx fun itv s2 h2 => ?_)
  obtain ⟨it, fp, tn, J, H2, rfl, I2, tu, st2, out2, told2⟩ := h2
  refine wpAny_newObj_type (newEnv_comp ?_)
  generalize eD : s2.heap.objs.size = D
  have freeD : H2 D = none := I2.hok.fresh (Nat.le_of_eq eD)
  obtain ⟨Wn, n, first, turns⟩ := told2 D freeD
  -- the dict is laid
  obtain ⟨sA, eA⟩ : ∃ sA : Shared, sA = { s2 with heap := s2.heap.push { cls := .type "dict", data := .dict #[] } } := ⟨_, rfl⟩
  have hA : sA.heap = s2.heap.push { cls := .type "dict", data := .dict #[] } := by rw [eA]
  have IA : Inv X pins σ (L2.upd H2 D (.dT [])) sA := by
    rw [eA]
    exact I2.laid (t' := s2.toks) (fun b o e => Heap.get?_push_of_some _ e) (Nat.le_of_eq eD) (by rw [← eD]; exact dt_empty s2.heap I2.big)
  have lt2 : ∀ b ∈ fp, b < s2.heap.objs.size := fun b hb => (tu.obj _ _ st2 b hb).elim fun o e => Heap.lt_size e.1
  have outA : ∀ b ∈ fp, FpOk X pins (L2.upd H2 D (.dT [])) b ∧ b < sA.heap.objs.size := fun b hb => by
    have l := lt2 b hb
    refine ⟨⟨?_, (out2 b hb).2⟩, by rw [hA, Heap.size_push]; exact Nat.lt_succ_of_lt l⟩
    rw [upd_ne (by rw [← eD]; exact Nat.ne_of_lt l)]
    exact (out2 b hb).1
  have noneA : ∀ b ∈ fp, (L2.upd H2 D (.dT [])) b = none := fun b hb => (outA b hb).1.1
  have stA : tn 0 sA.heap := tu.keep _ _ _ st2 fun b _ o e => by rw [hA]; exact Heap.get?_push_of_some _ e
  have IB := block_start IA bo nd outA
  obtain ⟨cl, ecl⟩ : ∃ cl, cl = cellsFrom (sA.heap.objs.size + 1) sco.names (cloFrom X.env.cells sco.names []) := ⟨_, rfl⟩
  have Pg := pg sA (L2.upd H2 D (.dT [])) sA.heap.objs.size cl fp
  have Pt := pt sA (L2.upd H2 D (.dT [])) sA.heap.objs.size cl fp
  have Pk := pk sA (L2.upd H2 D (.dT [])) sA.heap.objs.size cl fp
  have Pv := pv sA (L2.upd H2 D (.dT [])) sA.heap.objs.size cl fp
  obtain ⟨sB, eB⟩ : ∃ sB : Shared, sB = { sA with heap := pushCells (sA.heap.push { cls := .type "dict", data := .dict #[] }) sco.names } := ⟨_, rfl⟩
  rw [← ecl, ← eB] at IB
  rw [← eA, ← ecl, ← eB]
  have stB : tn 0 sB.heap := tu.keep _ _ _ stA fun b _ o e => by rw [eB]; exact pushCells_keeps _ _ _ _ (Heap.get?_push_of_some _ e)
  generalize ece : compEnvC sco cl sA.heap.objs.size X.env = ce at IB Pg Pt Pk Pv
  have locs : ce.locals = sA.heap.objs.size := by rw [← ece]; rfl
  generalize eHA : L2.upd H2 D (.dT []) = HA at IA IB Pg Pt Pk Pv first noneA outA
  have outB : ∀ {σ' : L2.St} {H' : Hp} {s' : Shared}, Inv (X.blk sA HA sco ce fp) [] σ' H' s' → (∀ b ∈ fp, H' b = none) → ∀ b ∈ fp, FpOk (X.blk sA HA sco ce fp) [] H' b := fun {σ' H' s'} I' hn b hb =>
    ⟨hn b hb, (I'.ok.exf b hb).1, I'.ok.exfs b hb, .inl hb, fun x c e => (I'.ok.exf b hb).2 x c e, fun p hp => absurd (show p ∈ ([] : List (Addr × Obj)) ++ [] from hp) (by simp)⟩
  refine (?_ : codeAny _ _ (.compStart (.DictComp key val [⟨tg, iter, ifs, 0⟩] sco pos) 0 (.ref it) (.ref D) (compEnvC sco cl sA.heap.objs.size X.env)) (compPost (model X.prog X.w) X.A X.xe none (EP X pins σ Q) (.ref D) sA.heap.objs.size) sB)
  rw [ece]
  refine (fun loop => codeAny_compStart_dict loop (tu.self X.A 0 _ _ _ stB loop)) ?_
  refine compLoop_anyD (fun m s' => ∃ i H', m = n - i ∧ Inv (X.blk sA HA sco ce fp) [] (L2.wipe σ (ow.map (·.2))) H' s' ∧ tn i s'.heap ∧ (∀ b ∈ fp, H' b = none) ∧ Wn i H') ?_ (n - 0) ⟨0, HA, rfl, IB, stB, noneA, first⟩
  rintro m s5 ⟨i, H5, rfl, I5, st5, no5, w5⟩
  rcases turns i H5 w5 with ⟨stop, last⟩ | ⟨lt, go, turn⟩
  · -- the walk is at its end
    refine thnF (tu.done (X.blk sA HA sco ce fp) rfl rfl rfl calm i [] s5 _ H5 (fun _ _ => False) I5 (outB I5 no5) st5 stop) fun r s6 ⟨hr, I6⟩ => ?_
    subst hr
    have I7 : Inv X pins σ H5 s6 := IA.call' (ch := fp) I6.os I6.base I6.hok I6.bare fun b hb => ⟨(outA b hb).1.2.2.2.1, (outA b hb).1.2.1, (outA b hb).1.2.2.2.2.1, (outA b hb).1.2.2.2.2.2⟩
    have noC : H5 sA.heap.objs.size = none := by
      have q : H5 ce.locals = none := I6.free
      rwa [locs] at q
    obtain ⟨mm, ns, _⟩ := I6.loc
    have ns : s6.heap.Ns ce.locals mm := ns
    rw [locs] at ns
    obtain ⟨f0, f1, f2, f3, f4, f5⟩ := IA.fpOk (Nat.le_refl _) noC
    exact ⟨mm, ns, fun h8 sb => ⟨.ref D, H5, I7.turned (t' := s6.toks) (fun b o hb e => (sb.2 b hb).trans e) f0 f1 f3 f4 f5, rfl, last⟩⟩
  · -- a turn
    refine thnF (tu.item (X.blk sA HA sco ce fp) rfl rfl rfl calm i [] s5 _ H5 (fun _ _ => False) I5 (outB I5 no5) st5 go) fun r s6 ⟨u, hr, h6⟩ => ?_
    subst hr
    refine thnF h6 fun _ s7 ⟨x, H7, I7, r7, y7, st7, no7⟩ => ?_
    refine thnF (Pg.run _ s7 _ H7 x u _ (I7.pinned (outB I7 no7) (tu.obj _ _ st7)) r7 (turn x H7 y7)) fun _ s8 ⟨σ8, H8, I8, w8, t8⟩ => ?_
    have again : ∀ {s' : Shared} {H' : Hp}, Inv (X.blk sA HA sco ce fp) ([] ++ pinsAt fp s7.heap) σ8 H' s' → Wn (i + 1) H' → ∃ m, m < n - i ∧ ∃ i' H', m = n - i' ∧ Inv (X.blk sA HA sco ce fp) [] (L2.wipe σ (ow.map (·.2))) H' s' ∧ tn i' s'.heap ∧ (∀ b ∈ fp, H' b = none) ∧ Wn i' H' := fun {s' H'} I' w' => by
      have pin : ∀ b ∈ fp, ∀ o, s7.heap.get? b = some o → s'.heap.get? b = some o ∧ H' b = none := fun b hb o e => by
        obtain ⟨q1, q2, _⟩ := I'.pin (b, o) (List.mem_append_right _ (List.mem_append_right _ (mem_pinsAt hb e)))
        exact ⟨q1, q2⟩
      have len : (L2.wipe σ (ow.map (·.2))).length = σ8.length := by rw [← w8, wipe_length]
      refine ⟨n - (i + 1), by omega, i + 1, H', rfl, (I'.unpinned (pins := [])).weak len (fun j v e => ?_), tu.keep _ _ _ st7 fun b hb o e => (pin b hb o e).1, fun b hb => ?_, w'⟩
      · rw [← w8] at e; exact (wipe_some e).1
      · obtain ⟨o, e, _⟩ := tu.obj _ _ st7 b hb
        exact (pin b hb o e).2
    refine thnF (Pt.run _ s8 σ8 H8 _ I8 t8) fun c s9 ⟨H9, I9, t9⟩ => ?_
    cases c with
    | false =>
      simp only [Bool.false_eq_true, if_false] at t9 ⊢
      exact again I9 t9
    | true =>
      simp only [if_true] at t9 ⊢
      refine thnF (Pk.run _ s9 σ8 H9 _ I9 t9) fun kv s10 ⟨y, H10, I10, r10, t10⟩ => ?_
      refine thnF (Pv.run _ s10 σ8 H10 _ I10 t10) fun vv s11 ⟨z, H11, I11, r11, kvs, ks, b, ey, atD, atb, few, w'⟩ => ?_
      subst ey
      cases (show kv = Value.ref b from r10)
      exact putTup (X := X.blk sA HA sco ce fp) room I11 atD atb few r11 fun s12 I12 => again I12 w'
end
end EV
end T14
section T15
set_option Elab.async false
set_option linter.all false
set_option maxRecDepth 100000
set_option maxHeartbeats 1000000
namespace EV
open PySem PySem.Spec PyProof.Rows L2

abbrev AL := List (List Int × P)
def putP (acc : AL) (k : List Int) (d : P) : AL := if (acc.any fun kv => decide (kv.1 = k)) = true then acc.map (fun kv => if kv.1 = k then (kv.1, d) else kv) else acc ++ [(k, d)]
def dctL (g : MG) (tt : MT) (tk tv : ME) (S : Sl) (I : Itd) : Nat → Nat → AL → Hs → Rs AL
  | 0, i, acc, h => match I.at i h with
    | some none => ret acc h
    | _ => none
  | n + 1, i, acc, h => match I.at i h with
    | none => none
    | some none => ret acc h
    | some (some d) => match g d S with
      | none => none
      | some S1 => bnd (noErr (tt S1 h)) fun b h1 => if b = true then bnd (noErr (tk S1 h1)) fun y h2 => bnd (noErr (tv S1 h2)) fun z h3 => (match y, z with
          | .p dy, .p dz => match tupI1 dy with
            | some k => dctL g tt tk tv S I n (i + 1) (putP acc k dz) h3
            | none => none
          | _, _ => none)
        else dctL g tt tk tv S I n (i + 1) acc h1
def mDctT (mi : MI) (g : MG) (tt : MT) (tk tv : ME) (vs : List Nat) : ME := fun S h => bnd (mi S h) fun I h1 => if I.len h1 ≤ 16777215 then bnd (dctL g tt tk tv (wipeS S vs) I (I.len h1) 0 [] h1) fun acc h2 => ret (.p (.dct (acc.map (·.1)) (acc.map (·.2)))) h2 else none
def kyl (l : List Int) : List Key := l.map Sum.inl
theorem kyl_inj : ∀ {a b : List Int}, kyl a = kyl b → a = b
  | [], [], _ => rfl
  | [], _ :: _, e => by simp [kyl] at e
  | _ :: _, [], e => by simp [kyl] at e
  | i :: a, j :: b, e => by
    simp only [kyl, List.map_cons, List.cons.injEq] at e
    rw [Sum.inl.inj e.1, kyl_inj (show kyl a = kyl b from e.2)]
/-- a table and the dict that stands for it -/
structure AlR (T : Tb) (K : PySem.W.Frag) (M : Trk) (H : Hp) (acc : AL) (kvs : List (List Key × V)) : Prop where
  ks : kvs.map (·.1) = (acc.map (·.1)).map kyl
  vs : RpA T K M H (acc.map (·.2)) (kvs.map (·.2))
section
variable {T : Tb} {K : PySem.W.Frag} {M M' : Trk} {H H' : Hp}
theorem AlR.len {acc : AL} {kvs : List (List Key × V)} (r : AlR T K M H acc kvs) : kvs.length = acc.length := by
  have q := congrArg List.length r.ks
  simpa using q
theorem AlR.cons_inv {acc : AL} {kvs : List (List Key × V)} {k : List Int} {d : P} (r : AlR T K M H ((k, d) :: acc) kvs) : ∃ v kvs', kvs = (kyl k, v) :: kvs' ∧ Rp T K M H d v ∧ AlR T K M H acc kvs' := by
  obtain ⟨ks, vs⟩ := r
  cases kvs with
  | nil => simp at ks
  | cons p kvs =>
    obtain ⟨a, v⟩ := p
    simp only [List.map_cons, List.cons.injEq] at ks
    cases vs with
    | cons h vs => exact ⟨v, kvs, by rw [ks.1], h, ks.2, vs⟩
theorem AlR.mk_cons {acc : AL} {kvs : List (List Key × V)} {k : List Int} {d : P} {v : V} (h : Rp T K M H d v) (r : AlR T K M H acc kvs) : AlR T K M H ((k, d) :: acc) ((kyl k, v) :: kvs) :=
  ⟨by simp [r.ks], .cons h r.vs⟩
theorem AlR.any {k : List Int} : ∀ {acc : AL} {kvs : List (List Key × V)}, AlR T K M H acc kvs → (kvs.any fun kv => decide (kv.1 = kyl k)) = acc.any fun kv => decide (kv.1 = k)
  | [], kvs, r => by
    have := r.len
    cases kvs with
    | nil => rfl
    | cons _ _ => simp at this
  | (a, d) :: acc, kvs, r => by
    obtain ⟨v, kvs', rfl, _, r'⟩ := r.cons_inv
    simp only [List.any_cons]
    rw [AlR.any r']
    congr 1
    by_cases e : a = k
    · simp [e]
    · have e' : ¬ kyl a = kyl k := fun z => e (kyl_inj z)
      simp [e, e']
theorem AlR.repl {k : List Int} {d : P} {v : V} (hd : Rp T K M H d v) : ∀ {acc : AL} {kvs : List (List Key × V)}, AlR T K M H acc kvs → AlR T K M H (acc.map fun kv => if kv.1 = k then (kv.1, d) else kv) (kvs.map fun kv => if kv.1 = kyl k then (kv.1, v) else kv)
  | [], kvs, r => by
    have := r.len
    cases kvs with
    | nil => exact ⟨rfl, .nil⟩
    | cons _ _ => simp at this
  | (a, x) :: acc, kvs, r => by
    obtain ⟨y, kvs', rfl, hx, r'⟩ := r.cons_inv
    have ih := AlR.repl (k := k) hd r'
    by_cases e : a = k
    · subst e
      simp only [List.map_cons, if_true]
      exact ih.mk_cons hd
    · have e' : kyl a ≠ kyl k := fun z => e (kyl_inj z)
      simp only [List.map_cons, if_neg e, if_neg e']
      exact ih.mk_cons hx
theorem AlR.put {acc : AL} {kvs : List (List Key × V)} {k : List Int} {d : P} {v : V} (r : AlR T K M H acc kvs) (hd : Rp T K M H d v) : AlR T K M H (putP acc k d) (putK kvs (kyl k) v) := by
  unfold putP putK
  rw [r.any]
  by_cases c : (acc.any fun kv => decide (kv.1 = k)) = true
  · rw [if_pos c, if_pos c]
    exact r.repl hd
  · rw [if_neg c, if_neg c]
    refine ⟨by simp [r.ks], ?_⟩
    rw [List.map_append, List.map_append]
    exact r.vs.append (.cons hd .nil)
theorem AlR.ext {acc : AL} {kvs : List (List Key × V)} (r : AlR T K M H acc kvs) (e : Ext M H M' H') : AlR T K M' H' acc kvs := ⟨r.ks, r.vs.ext e⟩
theorem putP_len (acc : AL) (k : List Int) (d : P) : (putP acc k d).length ≤ acc.length + 1 := by
  unfold putP
  split <;> simp
/-- the dict at D, barred while it is made -/
structure DctI (T : Tb) (K : PySem.W.Frag) (M1 : Trk) (H1 : Hp) (D : Addr) (M : Trk) (H : Hp) (h : Hs) (acc : AL) (kvs : List (List Key × V)) : Prop where
  ext : Ext M1 H1 M H
  hr : HR T K M H h
  bar : D ∈ M.no
  at' : H D = some (.dT kvs)
  out : D ∉ M.tk
  r : AlR T K M H acc kvs
theorem DctI.step {M1 : Trk} {H1 : Hp} {D : Addr} {h h' : Hs} {acc : AL} {kvs : List (List Key × V)} (c : DctI T K M1 H1 D M H h acc kvs) (e : Ext M H M' H') (hr : HR T K M' H' h') : DctI T K M1 H1 D M' H' h' acc kvs :=
  ⟨c.ext.trans e, hr, e.nos D c.bar, e.keep D _ c.at' c.out, e.outT c.at' c.out, c.r.ext e⟩
theorem DctI.put {M1 : Trk} {H1 : Hp} {D : Addr} {h : Hs} {acc : AL} {kvs : List (List Key × V)} {k : List Int} {d : P} {y : V} (c : DctI T K M1 H1 D M H h acc kvs) (hD : H1 D = none) (r : Rp T K M H d y) :
    DctI T K M1 H1 D M (L2.upd H D (.dT (putK kvs (kyl k) y))) h (putP acc k d) (putK kvs (kyl k) y) := by
  have z := c.r.put (k := k) r
  refine ⟨⟨c.ext.pre, c.ext.nos, c.ext.new, fun a o e n => ?_, fun a e => c.ext.live a (live_upd e)⟩, c.hr.writeN c.bar c.out, c.bar, upd_same, c.out, z.ks, z.vs.barred c.bar⟩
  rw [upd_ne (ne_of_none e hD)]
  exact c.ext.keep a o e n
theorem DctI.done {M1 : Trk} {H1 : Hp} {D : Addr} {h : Hs} {acc : AL} {kvs : List (List Key × V)} (c : DctI T K M1 H1 D M H h acc kvs) (nD : D ∉ M1.no) :
    Ext M1 H1 (unbar M D c.out) H ∧ HR T K (unbar M D c.out) H h ∧ RV T K (unbar M D c.out) H (.p (.dct (acc.map (·.1)) (acc.map (·.2)))) (.ref D) := by
  have lessen : ∀ a ∈ (unbar M D c.out).no, a ∈ M.no := fun a ha => (mem_unbar.mp ha).1
  exact ⟨⟨c.ext.pre, fun a ha => mem_unbar.mpr ⟨c.ext.nos a ha, fun z => nD (by rw [← z]; exact ha)⟩, fun a h1 h2 => c.ext.new a (lessen a h1) h2, c.ext.keep, c.ext.live⟩,
    c.hr.less rfl lessen, .p (.dct c.at' (fun z => (mem_unbar.mp z).2 rfl) c.r.ks (c.r.vs.less lessen))⟩
end
section
variable {T : Tb} {X : Cx} {W : WX}
theorem dct_reads {mi : MI} {g : MG} {tt : MT} {tk tv : ME} {js vs : List Nat} (hv : ∀ j ∈ js, j ∈ vs) {σ : L2.St} {H : Hp} {Q : VK} {K : PySem.W.Frag} (q : tr T K W (mDctT mi g tt tk tv vs) σ H Q) :
    tDcT (trI T K W mi) (trG T K js g) (trT T K W0 tt) (tr T K W0 tk) (tr T K W0 tv) vs σ H Q := by
  obtain ⟨S, M, h, sr, hr, p⟩ := q
  refine ⟨S, M, h, sr, hr, p.bnd fun I h1 M1 H1 J e1 hr1 r1 p1 => fun D hD => ?_⟩
  split at p1
  · rename_i hz
    have nD : D ∉ M1.no := hr1.none_out hD
    have sr1 := sr.ext e1
    let Rest : Nat → Nat → Hs → AL → Prop := fun m i h' acc => post T K (RV T K) M1 H1 (erAt T W σ) Q (bnd (dctL g tt tk tv (wipeS S vs) I m i acc h') fun acc h2 => ret (.p (.dct (acc.map (·.1)) (acc.map (·.2)))) h2)
    refine ⟨fun i H' => ∃ m M' h' acc kvs, i + m = I.len h1 ∧ acc.length ≤ i ∧ DctI T K M1 H1 D M' H' h' acc kvs ∧ Rest m i h' acc, I.len h1,
      ⟨I.len h1, M1.bar D, h1, [], [], Nat.zero_add _, Nat.le_refl _, ⟨.bar hD, hr1.bar hD, List.mem_append_right _ (by simp), upd_same, hr1.none_out' hD, rfl, .nil⟩, by simpa [Rest] using p1⟩, ?_⟩
    rintro i H2 ⟨m, M2, h2, acc, kvs, hm, hacc, c2, p2⟩
    obtain ⟨q1, q2⟩ := r1 i M2 H2 h2 c2.ext c2.hr
    have p2 : post T K (RV T K) M1 H1 (erAt T W σ) Q (bnd (dctL g tt tk tv (wipeS S vs) I m i acc h2) fun acc h2 => ret (.p (.dct (acc.map (·.1)) (acc.map (·.2)))) h2) := p2
    cases hat : I.at i h2 with
    | none => cases m <;> (simp only [dctL, hat] at p2; exact p2.elim)
    | some o =>
      cases o with
      | none =>
        refine .inl ⟨q2 hat, ?_⟩
        have p3 : post T K (RV T K) M1 H1 (erAt T W σ) Q (ret (.p (.dct (acc.map (·.1)) (acc.map (·.2)))) h2) := by
          cases m <;> simpa [dctL, hat, bnd, ret] using p2
        obtain ⟨a1, a2, a3⟩ := c2.done nD
        exact p3.ret a1 a2 a3
      | some d =>
        cases m with
        | zero => simp only [dctL, hat] at p2; exact p2.elim
        | succ m =>
          refine .inr ⟨by omega, ?_⟩
          obtain ⟨go, yl⟩ := q1 d hat
          refine ⟨go, fun x H' hy => ?_⟩
          obtain ⟨e3, hr3, rx⟩ := yl x H' hy
          simp only [dctL, hat] at p2
          cases eg : g d (wipeS S vs) with
          | none => rw [eg] at p2; exact p2.elim
          | some S3 =>
            rw [eg] at p2
            dsimp only at p2
            have c3 := c2.step e3 hr3
            refine ⟨wipeS S vs, M2, h2, d, S3, (sr1.ext c3.ext).wipe vs, hr3, rx, eg, fun σ3 sr3 w3 => ⟨by rw [w3 vs hv, wipe_wipe], S3, M2, h2, sr3, hr3, ?_⟩⟩
            rw [bnd_bnd] at p2
            refine post_bndE p2 fun b h3 M3 H3 x3 e4 hr4 r4 p5 => ?_
            cases (r4 : b = x3)
            have c4 := c3.step e4 hr4
            cases b with
            | false => exact ⟨m, M3, h3, acc, kvs, by omega, by omega, c4, by simpa using p5⟩
            | true =>
              refine ⟨S3, M3, h3, sr3.ext e4, hr4, ?_⟩
              simp only [if_true] at p5
              rw [bnd_bnd] at p5
              refine post_bndE p5 fun y h4 M4 H4 yv e5 hr5 r5 p6 => ?_
              have c5 := c4.step e5 hr5
              refine ⟨S3, M4, h4, (sr3.ext e4).ext e5, hr5, ?_⟩
              rw [bnd_bnd] at p6
              refine post_bndE p6 fun z h5 M5 H5 zv e6 hr6 r6 p7 => ?_
              have c6 := c5.step e6 hr6
              cases r5 with
              | ref _ => exact p7.elim
              | p ry =>
                cases r6 with
                | ref _ => exact p7.elim
                | p rz =>
                  rename_i dy dz
                  dsimp only at p7
                  cases ek : tupI1 dy with
                  | none => rw [ek] at p7; exact p7.elim
                  | some k =>
                    rw [ek] at p7
                    have em := tupI1_eq ek
                    subst em
                    have ry2 := ry.ext e6
                    cases ry2 with
                    | tup hl ra =>
                      rename_i b ys
                      have eys := RpA.ints ra
                      subst eys
                      have lk := c6.r.len
                      have kv_eq : (kyl k).map kV = k.map V.int := by simp [kyl, kV]
                      refine ⟨kvs, kyl k, b, rfl, c6.at', by rw [kv_eq]; exact hl.1, lt_line (by omega), m, M5, h5, putP acc k dz, _, by omega, ?_, c6.put hD rz, p7⟩
                      have := putP_len acc k dz
                      omega
  · exact p1.elim
theorem sim_dcT {k : Nat} {key val tg iter : Expr} {ifs : List Expr} {scope : Scope} (own : List (Str × Nat)) {pos : Pos} {mi : MI} {js : List Nat} {g : MG} {tt : MT} {tk tv : ME} (hr : Room k X.A) (hc : X.calm = true) (hN : X.N.Nodup) (hi : SimI T X W tg iter mi) (ok : BlkOk X.N X.env.scope scope own)
    (hg : ∀ (s : Shared) (H : Hp) (C : Addr) (cl : List (Str × Addr)) (fp : List Addr), SimG T (X.blk s H scope (compEnvC scope cl C X.env) fp) tg js g)
    (ht : ∀ (s : Shared) (H : Hp) (C : Addr) (cl : List (Str × Addr)) (fp : List Addr), SimTs T (X.blk s H scope (compEnvC scope cl C X.env) fp) W0 ifs tt)
    (hk : ∀ (s : Shared) (H : Hp) (C : Addr) (cl : List (Str × Addr)) (fp : List Addr), SimE T (X.blk s H scope (compEnvC scope cl C X.env) fp) W0 key tk)
    (he : ∀ (s : Shared) (H : Hp) (C : Addr) (cl : List (Str × Addr)) (fp : List Addr), SimE T (X.blk s H scope (compEnvC scope cl C X.env) fp) W0 val tv) (hv : ∀ j ∈ js, j ∈ own.map (·.2) := by decide)
    (hs : ∀ x, foldedSetIterable iter X.env x = pure x := by intro _; rfl) : SimE T X W (.DictComp key val [⟨tg, iter, ifs, 0⟩] scope pos) (mDctT mi g tt tk tv (own.map (·.2))) :=
  PE.weak (pe_dcT hr.units0 hc hN hi ok hg ht hk he hs) fun _ _ _ q => dct_reads hv q
/-! ### d.get(key, other), key in d -/
def dctV (v : Vl) : Option (List (List Int) × List P) := match v with
  | .p (.dct ks vs) => some (ks, vs)
  | _ => none
def findP : List (List Int) → List P → List Int → Option P
  | k :: ks, v :: vs, x => if k = x then some v else findP ks vs x
  | _, _, _ => none
theorem findP_val {K : PySem.W.Frag} {M : Trk} {H : Hp} : ∀ {ks : List (List Int)} {vs : List P} {kvs : List (List Key × V)} {x : List Int}, kvs.map (·.1) = ks.map (fun l => l.map Sum.inl) → RpA T K M H vs (kvs.map (·.2)) →
    (findP ks vs x = none ∧ valV kvs (kyl x) = none) ∨ ∃ d v, findP ks vs x = some d ∧ valV kvs (kyl x) = some v ∧ Rp T K M H d v
  | [], vs, kvs, x, e, r => by
    cases kvs with
    | nil => exact .inl ⟨rfl, rfl⟩
    | cons _ _ => simp at e
  | k :: ks, vs, kvs, x, e, r => by
    cases kvs with
    | nil => simp at e
    | cons p kvs =>
      obtain ⟨a, v⟩ := p
      simp only [List.map_cons, List.cons.injEq] at e
      cases r with
      | cons h r =>
        rename_i d vs
        have ea : a = kyl k := e.1
        by_cases c : k = x
        · subst c
          exact .inr ⟨d, v, by simp [findP], valV_pos ea, h⟩
        · have c' : ¬ a = kyl x := fun z => c (kyl_inj (ea.symm.trans z))
          have q := findP_val (x := x) e.2 r
          rw [valV_neg (p := (a, v)) c', show findP (k :: ks) (d :: vs) x = findP ks vs x by simp [findP, c]]
          exact q
end
end EV
end T15
section T16
set_option Elab.async false
set_option linter.all false
set_option maxRecDepth 100000
set_option maxHeartbeats 3200000
namespace EV
open PySem PySem.Spec PyProof.Rows L2

/-! ### len(set(t)), t a tuple of tuples of ints -/
section
variable {P : Program} {w : World} {A : Around} {E : Value → Shared → Prop} {s : Shared}
/-- a new set as it is laid -/
abbrev set0 (w : World) : Obj := { cls := .type "set", dict := none, data := .set #[] 0 (.fresh 0 0 (!w.params.followText "set-order")) }
theorem sub_tup_set : isSubtype (.type "tuple") (.type "set") = pure false := by first | rfl | decide +kernel
theorem sub_tup_fset : isSubtype (.type "tuple") (.type "frozenset") = pure false := by first | rfl | decide +kernel
theorem set_of_tup {t : Addr} {items : Array Value} (ks : List (Addr × List Int)) {Q : Value → Shared → Prop} (hh : A.handled = none) (ht : s.heap.IsTuple t items) (eq : items.toList = ks.map fun p => Value.ref p.1)
    (hk : ∀ p ∈ ks, IsT P w s.heap p.2 p.1) (few : ks.length < 64) (room : A.units + 3 < cLine)
    (next : ∀ (h' : Heap) (tk : Nat) L es ep tb, SetTR P w h' s.heap.objs.size L es ep tb → Got ks ks.length L → (∀ b o, s.heap.get? b = some o → h'.get? b = some o) → Q (.ref s.heap.objs.size) { s with heap := h', toks := tk }) :
    wpAny (model P w) A (call (.type "set") [.ref t]) Q E s := by
  have size : items.size = ks.length := by
    have q := congrArg List.length eq
    simpa using q
  have sub1 := F.called_set.sub
  have made := F.called_set.made
  obtain ⟨c, tl, mro⟩ := F.called_set.mro
  refine wpAny_call (codeAny_of_tree ?_)
  show wpAny _ _ (callAny (.type "set") _) _ _ _
  refine wpAny_pure ⟨Code.quiet_builtin _ (by decide +kernel), codeAny_builtin F.entry_type_call ?_⟩
  rw [Around.under_plain (weight_type_call_type "set" [.ref t] []) rfl]
  have tc := F.typeCall_set_1 (.ref t)
  have cc := F.called_set.canCreate
  have nt := F.called_set.notType
  repeat (any_goals (first | assumption | wp_step))
  refine codeAny_mono (code_set_led1 (.ref t) (E := E) (Q₁ := fun obj s₁ => obj = .ref s.heap.objs.size ∧ s₁ = { s with heap := s.heap.push (set0 w) }) ⟨rfl, rfl⟩) fun r s₁ hr => ?_
  match r, hr with
  | .error e, hr => exact hr
  | .ok .next, hr => exact hr.elim
  | .ok .brk, hr => exact hr.elim
  | .ok .cont, hr => exact hr.elim
  | .ok (.ret obj), hr =>
    obtain ⟨rfl, rfl⟩ := hr
    have laid : (s.heap.push (set0 w)).get? s.heap.objs.size = some (set0 w) := Heap.get?_push_size _ rfl
    have isSet : Shared.TypeIs { s with heap := s.heap.push (set0 w) } (.ref s.heap.objs.size) "set" := ⟨_, laid, rfl⟩
    have look := F.called_set.init.lookup
    have bind := F.called_set.init.bind (.ref s.heap.objs.size)
    repeat (any_goals (first | assumption | wp_step))
    refine codeAny_mono (codeAny_call_builtin (R := wants (fun r s₂ => r = .none ∧ ∃ h' tk L es ep tb, s₂ = { s with heap := h', toks := tk } ∧ SetTR P w h' s.heap.objs.size L es ep tb ∧ Got ks ks.length L ∧ (∀ b o, s.heap.get? b = some o → h'.get? b = some o)) E)
      F.called_set.init.plain F.entry_set_init (check_set_init_1 isSet ?_)) fun r₂ s₂ hr₂ => ?_
    · obtain ⟨ob, hob, hcl, nl, hdl⟩ := ht
      obtain ⟨oc, od, odt, osl⟩ := ob
      simp only at hcl hdl
      subst hcl; subst hdl
      have hob' : (s.heap.push (set0 w)).get? t = some { cls := .type "tuple", dict := od, data := .seq items nl, slots := osl } := Heap.get?_push_of_some _ hob
      have t1 : (s.heap.push (set0 w)).IsTuple t items := ⟨_, hob', rfl, nl, rfl⟩
      have q1 := sub_tup_set
      have q2 := sub_tup_fset
      have q3 : (Value.type "tuple" == Value.type "dict") = false := by decide
      unfold Builtin.«set.__init__» noKeywords Builtin.Frozenset.updateFrom
      generalize hPI : pyIter = PI
      wp_walk
      subst hPI
      refine wpAny_pyIter_tuple t1 ?_
      refine wpAny_bind (wpAny_runValue ?_)
      have lt : t < s.heap.objs.size := Heap.lt_size hob
      have h3 : A.in1.in1.in1.handled = none := by simp [hh]
      have ne : t ≠ (s.heap.push (set0 w)).objs.size := by
        rw [Heap.size_push]; exact Nat.ne_of_lt (Nat.lt_succ_of_lt lt)
      have nf : s.heap.objs.size ∉ [(s.heap.push (set0 w)).objs.size, t] := by
        rw [Heap.size_push]; simp only [List.mem_cons, List.mem_singleton, List.not_mem_nil, or_false, not_or]
        exact ⟨Nat.ne_of_lt (Nat.lt_succ_self _), Nat.ne_of_gt lt⟩
      have vals : ∀ (i : Nat) (v : Value), items[i]? = some v → ∃ p, ks[i]? = some p ∧ v = .ref p.1 := fun i v hv => by
        have q : items.toList[i]? = some v := by rw [Array.getElem?_toList]; exact hv
        rw [eq, List.getElem?_map] at q
        cases z : ks[i]? with
        | none => rw [z] at q; cases q
        | some p => rw [z] at q; exact ⟨p, rfl, (Option.some.inj q).symm⟩
      have nothing : ∀ b, s.heap.objs.size ≤ b → s.heap.get? b = none := fun b hb => by
        cases q : s.heap.get? b with
        | none => rfl
        | some o => exact absurd (Nat.lt_of_lt_of_le (Heap.lt_size q) hb) (Nat.lt_irrefl _)
      refine set_update_tups ((Walks.tuple h3 _ t ne items).toS) s.heap.objs.size nf ks size few vals s.heap hk (nothing _ (Nat.le_refl _))
        (fun b hb => nothing b (by rw [List.mem_singleton.mp hb, Heap.size_push]; exact Nat.le_succ _)) room (items.size - 0) 0 _ (by omega) (Nat.zero_le _)
        ⟨⟨_, Heap.get?_push_size _ rfl, rfl, rfl⟩, t1.at fun o e => Heap.get?_push_of_some _ e⟩ (fun b o e => Heap.get?_push_of_some _ (Heap.get?_push_of_some _ e)) ⟨[], #[], 0, _, setTR_fresh (Heap.get?_push_of_some _ laid), Got.zero ks⟩ ?_
      intro s' L es ep tb hm R g keep
      obtain ⟨h', g2, d', tk', os'⟩ := s'
      have eg : g2 = s.gens := hm.gens
      have ed : d' = s.drawn := hm.drawn
      have eo : os' = s.os := hm.os
      subst eg; subst ed; subst eo
      show wpAny _ _ _ _ _ _
      refine wpAny_pure ?_
      show wpAny _ _ (PySem.ret Value.none) _ _ _
      rw [size] at g
      exact wpAny_pure ⟨rfl, h', tk', L, es, ep, tb, rfl, R, g, keep⟩
    · match r₂, hr₂ with
      | .error e, hr₂ => exact hr₂
      | .ok .next, hr₂ => exact hr₂.elim
      | .ok .brk, hr₂ => exact hr₂.elim
      | .ok .cont, hr₂ => exact hr₂.elim
      | .ok (.ret r), hr₂ =>
        obtain ⟨rfl, h', tk, L, es, ep, tb, rfl, R, g, keep⟩ := hr₂
        repeat (any_goals (first | assumption | wp_step))
        exact next _ _ _ _ _ _ R g keep
end

/-- how many that differ -/
def dist : List (List Int) → List (List Int)
  | [] => []
  | x :: l => if x ∈ l then dist l else x :: dist l
theorem mem_dist : ∀ {l : List (List Int)} {x : List Int}, x ∈ dist l ↔ x ∈ l
  | [], _ => Iff.rfl
  | y :: l, x => by
    unfold dist
    split
    · rename_i h
      rw [mem_dist]
      exact ⟨fun q => List.mem_cons_of_mem _ q, fun q => (List.mem_cons.mp q).elim (fun z => by rw [z]; exact h) id⟩
    · rw [List.mem_cons, List.mem_cons, mem_dist]
theorem nodup_dist : ∀ l : List (List Int), (dist l).Nodup
  | [] => List.nodup_nil
  | y :: l => by
    unfold dist
    split
    · exact nodup_dist l
    · rename_i h
      exact List.nodup_cons.mpr ⟨fun q => h (mem_dist.mp q), nodup_dist l⟩
theorem nodup_le {α : Type} [DecidableEq α] : ∀ {l m : List α}, l.Nodup → (∀ x ∈ l, x ∈ m) → l.length ≤ m.length
  | [], _, _, _ => Nat.zero_le _
  | x :: l, m, n, h => by
    have n' := List.nodup_cons.mp n
    have q : l.length ≤ (m.erase x).length := nodup_le n'.2 fun y hy => (List.mem_erase_of_ne (fun z => n'.1 (by rw [← z]; exact hy))).mpr (h y (List.mem_cons_of_mem _ hy))
    have mx : x ∈ m := h x List.mem_cons_self
    rw [List.length_erase_of_mem mx] at q
    have pos : 0 < m.length := List.length_pos_of_mem mx
    rw [List.length_cons]
    omega
section
variable {X : Cx}
def tLenSetT (K : PySem.W.Frag) (ta : TE) : TE := fun σ H Q => ta σ H fun x H1 => ∃ (t : Addr) (ks : List (Addr × List Int)), x = V.ref t ∧ SqT K H1 t (ks.map fun p => V.ref p.1) ∧ (∀ p ∈ ks, SqT K H1 p.1 (p.2.map V.int)) ∧ ks.length < 64 ∧ Q (.int (dist (ks.map (·.2))).length) H1
theorem pe_lenSetT {k : Nat} {a : Expr} {ta : TE} {p p2 q pos : Pos} (room : Room k X.A) (calm : X.calm = true) (g1 : Gl X "len") (m1 : X.mg "len" = none) (g2 : Gl X "set") (m2 : X.mg "set" = none) (ha : PE X a ta)
    (na : starEach [a] X.env = (false, eval a X.env) :: starEach [] X.env := by rfl) : PE X (.Call (.Name "len" p) [.Call (.Name "set" p2) [a] [] q] [] pos) (tLenSetT X.K ta) := by
  refine ⟨fun pins s σ H Q I told => Call_ (ld_blt I g1 m1 PySem.boot_len ?_)⟩
  refine PyProof.Rows.callWith_builtin1 (PyProof.Rows.args_cons ?_ rfl) rfl rfl
  refine Call_ (ld_blt I g2 m2 PyProof.Rows.boot_set ?_)
  refine PyProof.Rows.callWith_type1 (PyProof.Rows.args_cons (thn (ha.run pins s σ H _ I told) fun u s1 ⟨x, H1, I1, r1, t, ks, ex, hT, hk, few, fin⟩ => PyProof.Rows.args_nil ?_) na) na rfl
  subst ex
  cases r1
  obtain ⟨its, r, tp, _⟩ := I1.tuple hT
  have un : X.A.units + 3 < cLine := by have := room.units; omega
  refine set_of_tup (P := X.prog) (w := X.w) ks (I1.ok.hd calm) tp (by simpa using refs_of_vals r) (fun p hp => I1.isT (hk p hp)) few un fun h' tk L es ep tb R g keep => PyProof.Rows.args_nil ?_
  have R' : SetTR X.prog X.w ({ s1 with heap := h', toks := tk } : Shared).heap s1.heap.objs.size L es ep tb := R
  obtain ⟨o, ho, ex, hd⟩ := R.ob
  have sz : es.size = L.length := R'.size
  have I2 : Inv X pins σ H1 { s1 with heap := h', toks := tk } := I1.kept fun b o e => keep b o e
  have cnt : L.length = (dist (ks.map (·.2))).length := by
    have le1 := nodup_le (m := dist (ks.map (·.2))) R.nd fun y hy => mem_dist.mpr (by
      obtain ⟨p, hp, e⟩ := List.mem_map.mp hy
      exact List.mem_map.mpr ⟨p, List.mem_of_mem_take (g.sub p hp), e⟩)
    have le2 := nodup_le (m := L.map (·.2)) (nodup_dist (ks.map (·.2))) fun y hy => by
      obtain ⟨p, hp, e⟩ := List.mem_map.mp (mem_dist.mp hy)
      rw [← e]
      exact g.all p (by rw [List.take_length]; exact hp)
    rw [List.length_map] at le1 le2
    omega
  exact call_len_set ho ex hd R'.fits (by have := R.few; rw [sz] <;> omega) ⟨.int (dist (ks.map (·.2))).length, H1, I2.tok _, ⟨_, by rw [sz, cnt]⟩, fin⟩
end
section
variable {T : Tb} {X : Cx} {W : WX}
def kLenSetT (v : Vl) (h : Hs) : Rs Vl := match v with
  | .p (.tup ds) => match tupsI ds with
    | some l => if ds.length < 64 then pI (dist l).length h else none
    | none => none
  | _ => none
theorem tups_at {K : PySem.W.Frag} {M : Trk} {H : Hp} : ∀ {ds : List P} {xs : List V} {l : List (List Int)}, RpA T K M H ds xs → tupsI ds = some l → ∃ ks : List (Addr × List Int), xs = ks.map (fun p => V.ref p.1) ∧ ks.map (·.2) = l ∧ ∀ p ∈ ks, SqT K H p.1 (p.2.map V.int)
  | [], _, l, .nil, e => by
    simp only [tupsI, Option.some.injEq] at e
    subst e
    exact ⟨[], rfl, rfl, fun p hp => by cases hp⟩
  | d :: ds, _, l, .cons h r, e => by
    obtain ⟨n, m, rfl, a, b⟩ := tupsI_cons e
    obtain ⟨ks, e1, e2, e3⟩ := tups_at r b
    obtain ⟨t, et, ht⟩ := h.tupI a
    subst et
    refine ⟨(t, n) :: ks, by rw [e1]; rfl, by rw [← e2]; rfl, fun p hp => ?_⟩
    rcases List.mem_cons.mp hp with z | z
    · rw [z]; exact ht
    · exact e3 p z
theorem sim_lenSetT {k : Nat} {a : Expr} {m : ME} {p p2 q pos : Pos} (hr : Room k X.A) (hc : X.calm = true) (m1 : X.mg "len" = none) (m2 : X.mg "set" = none) (ha : SimE T X W a m) (g1 : Gl X "len" := by rfl) (g2 : Gl X "set" := by rfl)
    (na : starEach [a] X.env = (false, eval a X.env) :: starEach [] X.env := by rfl) : SimE T X W (.Call (.Name "len" p) [.Call (.Name "set" p2) [a] [] q] [] pos) (EV.m1 kLenSetT m) := by
  refine PE.weak (pe_lenSetT hr hc g1 m1 g2 m2 ha na) fun σ H Q ⟨S, M, h, sr, hr, pp⟩ => tr_then sr hr pp fun v h1 M1 H1 x e1 sr1 hr1 r1 p1 => ?_
  unfold kLenSetT at p1
  split at p1
  · split at p1
    · rename_i ds l el
      split at p1
      · rename_i hz
        cases r1 with
        | p r1 =>
          cases r1 with
          | tup ht ra =>
            obtain ⟨ks, e2, e3, e4⟩ := tups_at ra el
            subst e2
            refine ⟨_, ks, rfl, ht.sqT, e4, ?_, ?_⟩
            · have := ra.length
              simp at this
              omega
            · rw [e3]
              exact p1.ret .refl hr1 (.p (.int _))
      · exact p1.elim
    · exact p1.elim
  · exact p1.elim
end
end EV
end T16
section T17
set_option Elab.async false
set_option linter.all false
set_option maxRecDepth 100000
namespace EV
open PySem PySem.Spec PyProof.Rows L2

/-! ### comprehensions within comprehensions -/
theorem look_re {env : Env} {x : Str} : ∀ {names : List (Str × NameKind)}, names.lookup x = some .cell ∨ names.lookup x = some .free →
    (names.map fun (n, k) => if (k == NameKind.free && env.scope.kind == .function && env.kindOf n == some .cell) then (n, NameKind.cell) else (n, k)).lookup x = some .cell ∨
    (names.map fun (n, k) => if (k == NameKind.free && env.scope.kind == .function && env.kindOf n == some .cell) then (n, NameKind.cell) else (n, k)).lookup x = some .free
  | [], h => by simp at h
  | (n, k) :: r, h => by
    by_cases e : (x == n) = true
    · simp only [List.map_cons]
      have h' : k = .cell ∨ k = .free := by simpa [List.lookup, e] using h
      split
      · left; simp [List.lookup, e]
      · rcases h' with z | z <;> subst z
        · left; simp [List.lookup, e]
        · right; simp [List.lookup, e]
    · have e' : (x == n) = false := by simpa using e
      have h' : r.lookup x = some .cell ∨ r.lookup x = some .free := by simpa [List.lookup, e'] using h
      simp only [List.map_cons]
      split <;> simpa [List.lookup, e'] using look_re (env := env) h'
theorem blkOk_re {N : List Str} {sc scope : Scope} {own : List (Str × Nat)} {env : Env} (h : BlkOk N sc scope own) : BlkOk N (relabel sc env) scope own :=
  ⟨h.kind, h.uniq, h.ix, fun y hy e => look_re (env := env) (h.free y hy e), h.own⟩
section
variable {T : Tb} {X : Cx} {W : WX} {k : Nat}
/-! ### f(*xs), C(*xs) -/
theorem sim_makeS (c : Nat) (fresh : Bool) {x : Str} {p pos sp : Pos} {e : Expr} {m : ME} {g : List Vl → Hs → Rs Vl} (F : MakeF T X k c x g) (tk : Takes X W) (hr : Room k X.A) (hg : Gl X x) (ha : SimE T X W e m) (hd : (x == ("__debug__" : Str)) = false := by decide)
    (he : starEach [.Starred e sp] X.env = [(true, eval e X.env)] := by rfl) : SimE T X W (.Call (.Name x p) [.Starred e sp] [] pos) (mAll (kMake c fresh g) (aStar m aNil)) := by
  obtain ⟨j, q, hj, MK, Fq, hm⟩ := F.ex
  refine ⟨fun pins s σ H Q I h => wpAny_Call_Name_kw (ld_glob I hg hm ?_ hd)⟩
  have h2 : tr T X.K W m σ H fun y H1 => ∃ a xs, y = V.ref a ∧ (SqT X.K H1 a xs ∨ SqL X.K H1 a xs) ∧ ∀ x dx, H1 x = none → H1 dx = none → dx ≠ x → spF T X.K g (V.ref x :: xs) (L2.upd (L2.upd H1 dx (.own x)) x (.ins (T.cls c) dx [])) (fun v H2 => v = .non ∧ Q (.ref x) H2) (fun cc d H' => W cc d σ H') := by
    obtain ⟨S, M, h, sr, hr, p⟩ := h
    have p : post T X.K (RV T X.K) M H (erAt T W σ) Q (bnd (bnd (m S h) fun v h1 => match EV.seqP v with
      | some ds => bnd (ret [] h1) fun vs h2 => ret (ds.map Vl.p ++ vs) h2
      | none => none) (kMake c fresh g)) := p
    rw [bnd_bnd] at p
    refine tr_then sr hr p fun v h1 M1 H1 y e1 sr1 hr1 r1 p1 => ?_
    split at p1
    · rename_i ds e2
      obtain ⟨a, xs, rfl, hs, ra⟩ := r1.seqP e2
      refine ⟨a, xs, rfl, hs, fun x dx hx hd ne => ?_⟩
      have p2 : post T X.K (RV T X.K) M1 H1 (erAt T W σ) Q (kMake c fresh g (ds.map Vl.p ++ []) h1) := p1
      rw [List.append_nil] at p2
      exact made_sp hr1 (RpA.vls ra) (fun _ _ z => z) p2 hx hd ne
    · exact p1.elim
  refine PySem.W.callWith_S (h₀ := X.base) I.ok.mod.kin MK.kp (thn (ha.run pins s σ H _ I h2) fun u s1 ⟨y, H1, I1, ry, a, xs, ey, hs, z⟩ => ?_) he
  subst ey
  cases ry
  exact StX.star_any I1 hs fun us s2 I2 rv => ⟨I2.kIn, sim_make.run_made MK Fq (hr.mono hj) tk I2 rv z⟩
end
end EV
namespace EV
open PySem PySem.Spec PyProof.Rows L2
section
variable {T : Tb} {X : Cx} {W : WX} {k : Nat}
/-! ### what is walked, a list or a tuple -/
def iSeqK (v : Vl) (h1 : Hs) : Rs Itd := match v with
  | .p (.tup ds) => ret (.d ds) h1
  | .p (.lst ds) => ret (.d ds) h1
  | .p (.scr ds) => ret (.d ds) h1
  | .ref n => match h1[n]? with
    | some (.lst _) => ret (.r n) h1
    | _ => none
  | _ => none
def iSeq (m : ME) : MI := fun S h => bnd (m S h) iSeqK
theorem sim_iS {tg e : Expr} {m : ME} (h : SimE T X W e m) : SimI T X W tg e (iSeq m) := by
  refine ⟨fun pins s σ H R I ⟨S, M, h0, sr, hr, p⟩ => ?_⟩
  have pick : (iSeq m S h0 = iSeqT m S h0) ∨ (iSeq m S h0 = iSeqL m S h0) := by
    unfold iSeq iSeqT iSeqL
    match m S h0 with
    | none => exact .inl rfl
    | some (.error c, h') => exact .inl rfl
    | some (.ok v, h') =>
      cases v with
      | ref n => exact .inr rfl
      | p d => cases d <;> first | exact .inl rfl | exact .inr rfl
  rcases pick with e1 | e1
  · exact (sim_iT h).run pins s σ H R I ⟨S, M, h0, sr, hr, by rw [← e1]; exact p⟩
  · exact (sim_iL h).run pins s σ H R I ⟨S, M, h0, sr, hr, by rw [← e1]; exact p⟩
end
end EV
end T17
section T18
set_option Elab.async false
set_option linter.all false
set_option maxRecDepth 100000
namespace EV
open PySem PySem.Spec PyProof.Rows L2
/-! ### t * 1, t * 0 -/
theorem tup_mul1 (l : Addr) (items : Array Value) (n : Nat) (dd : Option Addr) (sl : Array (Option Value)) (u : Tok) :
    Meets (Builtin.«tuple.__mul__» ⟨[.ref l, .int 1 u], []⟩) (fun _ R s => s.heap.get? l = some { cls := .type "tuple", dict := dd, data := .seq items n, slots := sl } ∧ R (.ok (.ret (Value.ref l))) s) :=
  .of_wp fun prog w A R s h => by
    obtain ⟨hp, g, d, tk, os⟩ := s
    obtain ⟨hl, h⟩ := h
    have f1 := AutoSeq1.idx_int
    have c1 : (items.isEmpty || (1 : Int) == 1) = true := by simp
    wp_walk using wpAny_loadPart' hl
    repeat (first
      | (refine wpAny_ite_false (decide_eq_false (by decide)) ?_; wp_walk using wpAny_loadPart' hl)
      | (refine wpAny_ite_true (decide_eq_true c1) ?_; wp_walk using wpAny_loadPart' hl))
    exact ⟨_, rfl, h⟩
theorem tup_mul0 (l : Addr) (items : Array Value) (n : Nat) (dd : Option Addr) (sl : Array (Option Value)) (x : Int) (u : Tok) (hx : x ≤ 0) (hlo : -(2 ^ 63) ≤ x) (ne : items.isEmpty = false) :
    Meets (Builtin.«tuple.__mul__» ⟨[.ref l, .int x u], []⟩) (fun _ R s => s.heap.get? l = some { cls := .type "tuple", dict := dd, data := .seq items n, slots := sl } ∧
      R (.ok (.ret (Value.ref s.heap.objs.size))) { s with heap := s.heap.push { cls := Value.type "tuple", data := Data.seq #[] }, toks := s.toks }) :=
  .of_wp fun prog w A R s h => by
    obtain ⟨hp, g, d, tk, os⟩ := s
    obtain ⟨hl, h⟩ := h
    have f1 := AutoSeq1.idx_int
    have c0 : (decide (x < -(2 ^ 63)) || decide (x ≥ 2 ^ 63)) = false := by
      rw [decide_eq_false (by omega), decide_eq_false (by omega)] <;> rfl
    have c1 : (items.isEmpty || x == 1) = false := by
      rw [ne, Bool.false_or]; exact beq_eq_false_iff_ne.mpr (by omega)
    have c2 : (decide (x ≤ 0) || items.isEmpty) = true := by rw [decide_eq_true hx] <;> rfl
    wp_walk using wpAny_loadPart' hl
    repeat (first
      | (refine wpAny_ite_false (decide_eq_false (by rw [c0]; exact Bool.false_ne_true)) ?_; wp_walk using wpAny_loadPart' hl)
      | (refine wpAny_ite_false (decide_eq_false (by rw [c1]; exact Bool.false_ne_true)) ?_; wp_walk using wpAny_loadPart' hl)
      | (refine wpAny_ite_true (decide_eq_true c2) ?_; wp_walk using wpAny_loadPart' hl))
    exact ⟨_, rfl, h⟩

section
variable {T : Tb} {X : Cx} {W : WX}
def rRepU (K : PySem.W.Frag) : R2 := fun x y H Q => ∃ l k xs, x = .ref l ∧ y = .int k ∧ SqT K H l xs ∧ xs ≠ [] ∧ ((k = 1 ∧ Q (.ref l) H) ∨ (k ≤ 0 ∧ -(2 ^ 63) ≤ k ∧ ∀ p, H p = none → Q (.ref p) (L2.upd H p (.tup []))))
theorem op_repU : OpR X (binaryOp .Mult) (rRepU X.K) := by
  intro pins s σ H x y v u Q I rx ry h
  obtain ⟨l, k, xs, rfl, rfl, hT, ne, fin⟩ := h
  cases rx
  obtain ⟨t, rfl⟩ := ry
  obtain ⟨its, r, ⟨⟨cls, dd, data, sl⟩, ho, hc, n, hd⟩, _⟩ := I.tuple hT
  simp only at hc hd
  subst hc hd
  have ne2 : its.toArray.isEmpty = false := by
    cases its with
    | nil =>
      have q := r.length
      exact absurd (List.eq_nil_of_length_eq_zero q) ne
    | cons a b => rfl
  refine wpAny_binaryOp_repeat_ref (T := "tuple") (U := "int") (by decide) ⟨_, ho, rfl⟩ (fun s' => typeIs_int s' k t) noFill_tuple_mul F.fills_int_mul F.slot_int_rmul repeat_tuple F.slot_int_index.lookup
    (call_meets F.slot_int_rmul (typeIs_int s k t) F.entry_int_rmul (F.args_int_rmul_2 _ _) (int_rmul_tuple k t l its.toArray n dd sl) ⟨ho, rfl, ⟨_, ho, rfl⟩, ?_⟩)
  rcases fin with ⟨rfl, q⟩ | ⟨k0, klo, q⟩
  · exact call_meets F.slot_tuple_mul ⟨_, ho, rfl⟩ F.entry_tuple_mul (F.args_tuple_mul_2 _ _) (tup_mul1 l its.toArray n dd sl t) ⟨ho, ⟨.ref l, H, I, rfl, q⟩⟩
  · exact call_meets F.slot_tuple_mul ⟨_, ho, rfl⟩ F.entry_tuple_mul (F.args_tuple_mul_2 _ _) (tup_mul0 l its.toArray n dd sl k t k0 klo ne2)
      ⟨ho, ⟨.ref s.heap.objs.size, _, I.laid (t' := s.toks) (o := .tup []) (fun b ob q => Heap.get?_push_of_some _ q) (Nat.le_refl _) ⟨Nat.zero_le _, [], .nil, IsTup.new _ _⟩, rfl, q _ (I.hok.fresh (Nat.le_refl _))⟩⟩
def fRepU (v w : Vl) (h : Hs) : Rs Vl := match v, w with
  | .p (.tup (d :: ds)), .p (.int k) => if k = 1 then ret (.p (.tup (d :: ds))) h else if k ≤ 0 ∧ -(2 ^ 63) ≤ k then ret (.p (.tup [])) h else fRepT v w h
  | _, _ => none
theorem s_repU : Op2 T X.K fRepU (fun x y H Q => rRepU X.K x y H Q ∨ rRepT X.K x y H Q) := by
  intro M H h v w x y Er Q hr rx ry p
  unfold fRepU at p
  split at p
  · rename_i d ds k
    split at p
    · rename_i hk
      subst hk
      cases rx with
      | p rx =>
        cases rx with
        | tup a ra =>
          cases ry with
          | p ry =>
            cases ry
            exact .inl ⟨_, _, _, rfl, rfl, a.sqT, ra.ne (by simp), .inl ⟨rfl, p.ret .refl hr (.p (.tup a ra))⟩⟩
    · split at p
      · rename_i hk
        cases rx with
        | p rx =>
          cases rx with
          | tup a ra =>
            cases ry with
            | p ry =>
              cases ry
              exact .inl ⟨_, _, _, rfl, rfl, a.sqT, ra.ne (by simp), .inr ⟨hk.1, hk.2, fun q hq => p.ret (.fresh hq) (hr.fresh hq) (new_tup hr hq .nil)⟩⟩
      · exact .inr (s_repT M H h _ _ x y Er Q hr rx ry p)
  · exact p.elim
theorem sim_repU {ea eb : Expr} {a b : ME} {pos : Pos} (ha : SimE T X W ea a) (hb : SimE T X W eb b) : SimE T X W (.BinOp ea .Mult eb pos) (m2 fRepU a b) := sim_op (op_repU.or op_repT) s_repU ha hb
end
end EV
namespace EV
open PySem PySem.Spec PyProof.Rows L2
section
variable {P : Program} {w : World} {K : PySem.W.Frag} {mg : Str → Option Value} {base : Heap} {T : Tb}
theorem fn_simOk {x qual : Str} {st : Stmt} {f : Addr} {fd : FuncData} {N ps : List Str} {k : Nat} {b : MS} {fresh : Bool} (F : Fun K x qual st f fd) (S : FnScope N ps (defScope st))
    (hbody : ∀ (cdv : Value) (A : Around) (outer : List Env) (s : Shared) (H : Hp) (E : XK), Room k (A.deeper (envOfC qual (defScope st) s.heap.objs.size f cdv)) →
      PassesOwn (model P w) (A.deeper (envOfC qual (defScope st) s.heap.objs.size f cdv)) (envOfC qual (defScope st) s.heap.objs.size f cdv) (cxOf (L2.CX P w) P w K mg base N qual (defScope st) f cdv A outer s H E).xe →
      Takes (cxOf (L2.CX P w) P w K mg base N qual (defScope st) f cdv A outer s H E) (fun cls d _ H => E cls d H) →
      SimSs T (cxOf (L2.CX P w) P w K mg base N qual (defScope st) f cdv A outer s H E) (fun cls d _ H => E cls d H) (defBody st) b) :
    FnOk P w K mg base (L2.CX P w) (k + 1) f fd ps (fun vs H Q E => vs.length = ps.length ∧ spF T K (fnRun ps.length N.length fresh b) vs H Q E) := by
  refine F.okX S (fun vs H Q E h => h.1) (fun cdv A outer s H vs Q E hr h => ?_)
  obtain ⟨hl, args, M, h, ra, hR, p⟩ := h
  refine ⟨_, hbody cdv A outer s H E hr (passes_of (X := cxOf (L2.CX P w) P w K mg base N qual (defScope st) f cdv A outer s H E) rfl) (takes_of rfl rfl rfl rfl), ?_⟩
  have ha : args.length = ps.length := by rw [ra.length]; exact hl
  refine ⟨args.map some ++ List.replicate (N.length - ps.length) none, M, h, ?_, hR, ?_⟩
  · have q := sr_start (T := T) (K := K) (N.length - ps.length) ra
    unfold L2.start
    rw [hl]
    exact q
  · unfold fnRun at p
    rw [if_pos ha] at p
    match e : b (args.map some ++ List.replicate (N.length - ps.length) none) h, p with
    | some (.error c, S', h'), p => exact fun M' H' σ' e' hr' _ => p M H' e'.cut (HR.cut e' hR hr')
    | some (.ok .nx, S', h'), p => exact fun M' H' σ' e' hr' _ => p M H' _ e'.cut (HR.cut e' hR hr') (.p .non)
    | some (.ok (.rt v), S', h'), p => exact fun M' H' x e' hr' r' => post_back e' hR hr' r' p
/-- nothing at all is promised of a def that does not run -/
theorem fn_none {k : Nat} {a : Addr} : FnR P w K mg base (L2.CX P w) k a (spF T K fun _ _ => none) := fun _ _ _ _ _ _ _ _ _ _ _ ⟨_, _, _, _, _, p⟩ => p.elim
theorem cx_false {H : Hp} {s s' : Shared} {e : Value} (h : L2.CX P w [] H s (fun _ _ _ => False) e s') : False := by
  obtain ⟨_, _, _, _, _, _, _, _, _, _, _, _, z⟩ := h
  exact z
/-- the law at a script -/
theorem sp_script {f : List Vl → Hs → Rs Vl} {H : Hp} {a : Addr} {ns : List Int} (hS : SqL K H a (ns.map V.int)) (hf : ∃ h', f [.p (.scr (ns.map .int))] [] = some (.ok (.p (.bl true)), h')) : spF T K f [.ref a] H (fun v _ => v = .bl true) fun _ _ _ => False := by
  refine ⟨[.p (.scr (ns.map .int))], ⟨[], [], fun _ h => h⟩, [], .cons (.p (.scr ?_ (RpA.of_ints ns))) .nil, ⟨rfl, List.nodup_nil, (fun a h => by cases h), (fun n a p h => by simp at h)⟩, ?_⟩
  · rcases hS with h | h
    · exact .inl ⟨h, by simp⟩
    · exact .inr h
  · obtain ⟨h', e⟩ := hf
    rw [e]
    intro M' H' x _ _ r
    cases r with | p r => cases r; rfl
/-- what is asked of a law, whatever stands for what -/
def spScript (K : PySem.W.Frag) : Sp := fun vs H Q _ => ∃ (a : Addr) (ns : List Int), vs = [.ref a] ∧ SqL K H a (ns.map V.int) ∧ ns.length ≤ 63 ∧ ∀ H', Q (.bl true) H'
theorem sp_script2 {f : List Vl → Hs → Rs Vl} {vs : List V} {H : Hp} {Q : VK} {E : XK} (h : spScript K vs H Q E) (hf : ∀ ns : List Int, ns.length ≤ 63 → ∃ h', f [.p (.scr (ns.map .int))] [] = some (.ok (.p (.bl true)), h')) : vs.length = 1 ∧ spF T K f vs H Q E := by
  obtain ⟨a, ns, rfl, hS, hl, hq⟩ := h
  refine ⟨rfl, [.p (.scr (ns.map .int))], ⟨[], [], fun _ h => h⟩, [], .cons (.p (.scr ?_ (RpA.of_ints ns))) .nil, ⟨rfl, List.nodup_nil, (fun a h => by cases h), (fun n a p h => by simp at h)⟩, ?_⟩
  · rcases hS with h | h
    · exact .inl ⟨h, by simp⟩
    · exact .inr h
  · obtain ⟨h', e⟩ := hf ns hl
    rw [e]
    intro M' H' x _ _ r
    cases r with | p r => cases r; exact hq H'
/-- what is called with data alone does not see the heap -/
def frame (f : List Vl → Hs → Rs Vl) (args : List Vl) (h : Hs) : Rs Vl := match pures args with
  | some _ => match f args [] with
    | some (.ok (.p d), []) => some (.ok (.p d), h)
    | some (.error c, []) => some (.error c, h)
    | _ => none
  | none => f args h
theorem frame_sp {f : List Vl → Hs → Rs Vl} {vs : List V} {H : Hp} {Q : VK} {E : XK} (h : spF T K (frame f) vs H Q E) : spF T K f vs H Q E := by
  obtain ⟨args, M, h, ra, hR, p⟩ := h
  unfold frame at p
  split at p
  · rename_i ds ep
    let M0 : Trk := ⟨[], M.no, fun _ h => by cases h⟩
    have hR0 : HR T K M0 H [] := ⟨rfl, List.nodup_nil, hR.pos, fun n a p e => by cases n <;> cases e⟩
    have ra0 : RVA T K M0 H args vs := by
      have q0 : RpA T K M0 H ds vs := RpA.less (M := M) (M' := M0) (fun _ h => h) (ra.pures ep)
      have q := RpA.vls q0
      have e : args = ds.map Vl.p := by
        clear ra p hR hR0 q q0
        induction args generalizing ds with
        | nil => simp only [EV.pures, Option.some.injEq] at ep; subst ep; rfl
        | cons a r ih =>
          cases a with
          | ref n => simp [EV.pures] at ep
          | p d =>
            simp only [EV.pures] at ep
            split at ep
            · rename_i l el
              cases ep
              rw [ih l el]; rfl
            · cases ep
      rw [e]; exact q
    have back : ∀ M' H', Ext M0 H M' H' → Ext M H M H' ∧ HR T K M H' h := fun M' H' e => by
      have e1 : Ext M H M H' := ⟨⟨[], by simp⟩, fun _ h => h, fun a h1 h2 => absurd h1 h2, fun a o z _ => e.keep a o z (fun y => by cases y), e.live⟩
      exact ⟨e1, hR.len, hR.nd, fun a ha z => hR.pos a ha (e.live a z), fun n a q e2 e3 => (hR.at' n a q e2 e3).keep e1 fun o z => e.keep a o z (fun y => by cases y)⟩
    refine ⟨args, M0, [], ra0, hR0, ?_⟩
    split at p
    · rename_i d ef
      rw [ef]
      intro M' H' x e _ r
      obtain ⟨e1, hr1⟩ := back M' H' e
      cases r with | p r => exact p M H' x e1 hr1 (.p (Rp.less (M := M') (M' := M) (fun a ha => e.nos a ha) r))
    · rename_i c ef
      rw [ef]
      intro M' H' e _
      obtain ⟨e1, hr1⟩ := back M' H' e
      exact p M H' e1 hr1
    · exact p.elim
  · exact ⟨args, M, h, ra, hR, p⟩
theorem fn_frame {k : Nat} {a : Addr} {f : List Vl → Hs → Rs Vl} (F : FnR P w K mg base (L2.CX P w) k a (spF T K f)) : FnR P w K mg base (L2.CX P w) k a (spF T K (frame f)) := F.imp fun _ _ _ _ h => frame_sp h
end
end EV
end T18
section T19
set_option Elab.async false
set_option linter.all false
set_option maxRecDepth 100000
namespace Lw
open PySem PySem.Spec PyProof.Rows L2 EV
def topS (i : Nat) : Stmt := PySem.Challenge.pw_halfread_k30_single_codes_made.main.body.getD i (.Pass ⟨0, 0, 0, 0⟩)
abbrev s_is_whole : Stmt := topS 8
theorem sc_is_whole : FnScope ["thing"] ["thing"] (defScope s_is_whole) := ⟨rfl, rfl, rfl, by decide +kernel, rfl, by decide +kernel, by decide +kernel⟩
abbrev s_is_between : Stmt := topS 9
theorem sc_is_between : FnScope ["thing", "low", "high"] ["thing", "low", "high"] (defScope s_is_between) := ⟨rfl, rfl, rfl, by decide +kernel, rfl, by decide +kernel, by decide +kernel⟩
abbrev s_check_number : Stmt := topS 10
theorem sc_check_number : FnScope ["number", "low", "high"] ["number", "low", "high"] (defScope s_check_number) := ⟨rfl, rfl, rfl, by decide +kernel, rfl, by decide +kernel, by decide +kernel⟩
abbrev s_Code_init : Stmt := inClass (topS 14) 0
theorem sc_Code_init : FnScope ["self", "words", "value", "word"] ["self", "words"] (defScope s_Code_init) := ⟨rfl, rfl, rfl, by decide +kernel, rfl, by decide +kernel, by decide +kernel⟩
abbrev s_Code_words : Stmt := inClass (topS 14) 1
theorem sc_Code_words : FnScope ["self"] ["self"] (defScope s_Code_words) := ⟨rfl, rfl, rfl, by decide +kernel, rfl, by decide +kernel, by decide +kernel⟩
abbrev s_is_word : Stmt := topS 15
theorem sc_is_word : FnScope ["thing", "bits", "bit"] ["thing", "bits"] (defScope s_is_word) := ⟨rfl, rfl, rfl, by decide +kernel, rfl, by decide +kernel, by decide +kernel⟩
abbrev s_are_words : Stmt := topS 16
theorem sc_are_words : FnScope ["words", "first", "word"] ["words"] (defScope s_are_words) := ⟨rfl, rfl, rfl, by decide +kernel, rfl, by decide +kernel, by decide +kernel⟩
abbrev s_stepped : Stmt := topS 23
theorem sc_stepped : FnScope ["word", "place"] ["word", "place"] (defScope s_stepped) := ⟨rfl, rfl, rfl, by decide +kernel, rfl, by decide +kernel, by decide +kernel⟩
abbrev s_fresh_places : Stmt := topS 24
theorem sc_fresh_places : FnScope ["words", "place", "word"] ["words"] (defScope s_fresh_places) := ⟨rfl, rfl, rfl, by decide +kernel, rfl, by decide +kernel, by decide +kernel⟩
abbrev s_next_words : Stmt := topS 25
theorem sc_next_words : FnScope ["words", "left", "last", "start", "place", "steps", "word"] ["words", "left"] (defScope s_next_words) := ⟨rfl, rfl, rfl, by decide +kernel, rfl, by decide +kernel, by decide +kernel⟩
abbrev s_grown : Stmt := topS 26
theorem sc_grown : FnScope ["words", "values", "fits", "closes", "word", "longer", "ring"] ["words", "values", "fits", "closes"] (defScope s_grown) := ⟨rfl, rfl, rfl, by decide +kernel, rfl, by decide +kernel, by decide +kernel⟩
abbrev s_smallest : Stmt := topS 27
theorem sc_smallest : FnScope ["values", "bits", "fits", "closes", "ring"] ["values", "bits", "fits", "closes"] (defScope s_smallest) := ⟨rfl, rfl, rfl, by decide +kernel, rfl, by decide +kernel, by decide +kernel⟩
abbrev s_anything : Stmt := topS 28
theorem sc_anything : FnScope ["words"] ["words"] (defScope s_anything) := ⟨rfl, rfl, rfl, by decide +kernel, rfl, by decide +kernel, by decide +kernel⟩
abbrev s_check_sizes : Stmt := topS 29
theorem sc_check_sizes : FnScope ["values", "bits"] ["values", "bits"] (defScope s_check_sizes) := ⟨rfl, rfl, rfl, by decide +kernel, rfl, by decide +kernel, by decide +kernel⟩
abbrev s_single : Stmt := topS 30
theorem sc_single : FnScope ["values", "bits"] ["values", "bits"] (defScope s_single) := ⟨rfl, rfl, rfl, by decide +kernel, rfl, by decide +kernel, by decide +kernel⟩
abbrev s_law_cell_at : Stmt := topS 32
theorem sc_law_cell_at : FnScope ["_law_script", "_law_k"] ["_law_script", "_law_k"] (defScope s_law_cell_at) := ⟨rfl, rfl, rfl, by decide +kernel, rfl, by decide +kernel, by decide +kernel⟩
abbrev s_law_pen : Stmt := topS 33
theorem sc_law_pen : FnScope ["_law_cell"] ["_law_cell"] (defScope s_law_pen) := ⟨rfl, rfl, rfl, by decide +kernel, rfl, by decide +kernel, by decide +kernel⟩
abbrev s_law_draw : Stmt := topS 34
theorem sc_law_draw : FnScope ["_law_pen_here", "_law_many", "_law_found", "_law_mixed_here"] ["_law_pen_here", "_law_many"] (defScope s_law_draw) := ⟨rfl, rfl, rfl, by decide +kernel, rfl, by decide +kernel, by decide +kernel⟩
abbrev s_law_mixed : Stmt := topS 35
theorem sc_law_mixed : FnScope ["_law_pen_here", "_law_some", "_law_left", "_law_one"] ["_law_pen_here", "_law_some"] (defScope s_law_mixed) := ⟨rfl, rfl, rfl, by decide +kernel, rfl, by decide +kernel, by decide +kernel⟩
abbrev s_law_all : Stmt := topS 36
theorem sc_law_all : FnScope ["_law_many", "_law_found", "_law_turn", "_law_longer", "_law_row"] ["_law_many"] (defScope s_law_all) := ⟨rfl, rfl, rfl, by decide +kernel, rfl, by decide +kernel, by decide +kernel⟩
abbrev s_law_near : Stmt := topS 37
theorem sc_law_near : FnScope ["_law_row", "_law_at"] ["_law_row"] (defScope s_law_near) := ⟨rfl, rfl, rfl, by decide +kernel, rfl, by decide +kernel, by decide +kernel⟩
abbrev s_law_apart : Stmt := topS 38
theorem sc_law_apart : FnScope ["_law_row", "_law_other", "_law_at"] ["_law_row", "_law_other"] (defScope s_law_apart) := ⟨rfl, rfl, rfl, by decide +kernel, rfl, by decide +kernel, by decide +kernel⟩
abbrev s_law_rings : Stmt := topS 39
theorem sc_law_rings : FnScope ["_law_many", "_law_wide", "_law_limit", "_law_found", "_law_waiting", "_law_rows", "_law_left", "_law_row"] ["_law_many", "_law_wide", "_law_limit"] (defScope s_law_rings) := ⟨rfl, rfl, rfl, by decide +kernel, rfl, by decide +kernel, by decide +kernel⟩
abbrev s_law_due : Stmt := topS 40
theorem sc_law_due : FnScope ["_law_many", "_law_wide", "_law_rings_here"] ["_law_many", "_law_wide"] (defScope s_law_due) := ⟨rfl, rfl, rfl, by decide +kernel, rfl, by decide +kernel, by decide +kernel⟩
abbrev s_law : Stmt := topS 41
theorem sc_law : FnScope ["_law_script", "_law_k", "_law_pen_here", "_law_wide", "_law_many", "_law_due_here", "_law_turn", "_law_told"] ["_law_script"] (defScope s_law) := ⟨rfl, rfl, rfl, by decide +kernel, rfl, by decide +kernel, by decide +kernel⟩
structure Facts (P : Program) (w : World) (K : PySem.W.Frag) (mg : Str → Option Value) (base : Heap) (T : Tb) (F : FnsT) (k : Nat) : Prop where
  f_law_all : ∃ a, FnR P w K mg base (L2.CX P w) k a (spF T K (F 33)) ∧ PySem.W.keepIn K (.ref a) = true ∧ mg "_law_all" = some (.ref a)
  f_law_apart : ∃ a, FnR P w K mg base (L2.CX P w) k a (spF T K (F 35)) ∧ PySem.W.keepIn K (.ref a) = true ∧ mg "_law_apart" = some (.ref a)
  f_law_cell_at : ∃ a, FnR P w K mg base (L2.CX P w) k a (spF T K (F 29)) ∧ PySem.W.keepIn K (.ref a) = true ∧ mg "_law_cell_at" = some (.ref a)
  f_law_draw : ∃ a, FnR P w K mg base (L2.CX P w) k a (spF T K (F 31)) ∧ PySem.W.keepIn K (.ref a) = true ∧ mg "_law_draw" = some (.ref a)
  f_law_due : ∃ a, FnR P w K mg base (L2.CX P w) k a (spF T K (F 37)) ∧ PySem.W.keepIn K (.ref a) = true ∧ mg "_law_due" = some (.ref a)
  f_law_mixed : ∃ a, FnR P w K mg base (L2.CX P w) k a (spF T K (F 32)) ∧ PySem.W.keepIn K (.ref a) = true ∧ mg "_law_mixed" = some (.ref a)
  f_law_near : ∃ a, FnR P w K mg base (L2.CX P w) k a (spF T K (F 34)) ∧ PySem.W.keepIn K (.ref a) = true ∧ mg "_law_near" = some (.ref a)
  f_law_pen : ∃ a, FnR P w K mg base (L2.CX P w) k a (spF T K (F 30)) ∧ PySem.W.keepIn K (.ref a) = true ∧ mg "_law_pen" = some (.ref a)
  f_law_rings : ∃ a, FnR P w K mg base (L2.CX P w) k a (spF T K (F 36)) ∧ PySem.W.keepIn K (.ref a) = true ∧ mg "_law_rings" = some (.ref a)
  f_are_words : ∃ a, FnR P w K mg base (L2.CX P w) k a (spF T K (F 17)) ∧ PySem.W.keepIn K (.ref a) = true ∧ mg "are_words" = some (.ref a)
  f_check_number : ∃ a, FnR P w K mg base (L2.CX P w) k a (spF T K (F 2)) ∧ PySem.W.keepIn K (.ref a) = true ∧ mg "check_number" = some (.ref a)
  f_check_sizes : ∃ a, FnR P w K mg base (L2.CX P w) k a (spF T K (F 27)) ∧ PySem.W.keepIn K (.ref a) = true ∧ mg "check_sizes" = some (.ref a)
  f_fresh_places : ∃ a, FnR P w K mg base (L2.CX P w) k a (spF T K (F 22)) ∧ PySem.W.keepIn K (.ref a) = true ∧ mg "fresh_places" = some (.ref a)
  f_grown : ∃ a, FnR P w K mg base (L2.CX P w) k a (spF T K (F 24)) ∧ PySem.W.keepIn K (.ref a) = true ∧ mg "grown" = some (.ref a)
  f_is_between : ∃ a, FnR P w K mg base (L2.CX P w) k a (spF T K (F 1)) ∧ PySem.W.keepIn K (.ref a) = true ∧ mg "is_between" = some (.ref a)
  f_is_whole : ∃ a, FnR P w K mg base (L2.CX P w) k a (spF T K (F 0)) ∧ PySem.W.keepIn K (.ref a) = true ∧ mg "is_whole" = some (.ref a)
  f_is_word : ∃ a, FnR P w K mg base (L2.CX P w) k a (spF T K (F 16)) ∧ PySem.W.keepIn K (.ref a) = true ∧ mg "is_word" = some (.ref a)
  f_next_words : ∃ a, FnR P w K mg base (L2.CX P w) k a (spF T K (F 23)) ∧ PySem.W.keepIn K (.ref a) = true ∧ mg "next_words" = some (.ref a)
  f_single : ∃ a, FnR P w K mg base (L2.CX P w) k a (spF T K (F 28)) ∧ PySem.W.keepIn K (.ref a) = true ∧ mg "single" = some (.ref a)
  f_smallest : ∃ a, FnR P w K mg base (L2.CX P w) k a (spF T K (F 25)) ∧ PySem.W.keepIn K (.ref a) = true ∧ mg "smallest" = some (.ref a)
  f_stepped : ∃ a, FnR P w K mg base (L2.CX P w) k a (spF T K (F 21)) ∧ PySem.W.keepIn K (.ref a) = true ∧ mg "stepped" = some (.ref a)
  n_all : mg "all" = none
  n_bool : mg "bool" = none
  n_enumerate : mg "enumerate" = none
  n_int : mg "int" = none
  n_isinstance : mg "isinstance" = none
  n_len : mg "len" = none
  n_list : mg "list" = none
  n_max : mg "max" = none
  n_min : mg "min" = none
  n_range : mg "range" = none
  n_set : mg "set" = none
  n_sorted : mg "sorted" = none
  n_sum : mg "sum" = none
  n_tuple : mg "tuple" = none
  k_MOST_BITS_codes : ∃ t, mg "MOST_BITS_codes" = some (.int 5 t)
  k_MOST_BITS_making : ∃ t, mg "MOST_BITS_making" = some (.int 4 t)
  k_MOST_VALUES : ∃ t, mg "MOST_VALUES" = some (.int 16 t)
  k_MOST_WORDS : ∃ t, mg "MOST_WORDS" = some (.int 16 t)
  c_Code : ClsF T K 0
  nm_Code : T.nms 0 = (["_words", "_numbers"] : List Str)
  p_Code_words : ∃ j p a, j + 1 ≤ k ∧ PropOf K (T.cls 0) "words" p a ∧ FnR P w K mg base (L2.CX P w) j a (spF T K (F 4))
  m_Code : ∃ j a, j + 1 ≤ k ∧ Mk K (T.cls 0) a ∧ FnR P w K mg base (L2.CX P w) j a (spF T K (F 3)) ∧ mg "Code" = some (.ref (T.cls 0))
  vals : ∀ i ∈ [26], FnR P w K mg base (L2.CX P w) k (T.fns i) (spF T K (F i)) ∧ PySem.W.keepIn K (.ref (T.fns i)) = true
  v_anything : mg "anything" = some (.ref (T.fns 26))
section
variable {P : Program} {w : World} {K : PySem.W.Frag} {mg : Str → Option Value} {base : Heap} {T : Tb} {F : FnsT} {k : Nat} {f : Addr} {fd : FuncData}
def b_is_whole (F : FnsT) : MS :=
  sSeq (sRet (mAnd (m1 (fIsi "int") (mVar 0)) (mNot (m1 (fIsi "bool") (mVar 0))))) (sNil)
theorem fn_is_whole (Z : Facts P w K mg base T F k) (Fu : Fun K "is_whole" "is_whole" s_is_whole f fd) : FnR P w K mg base (L2.CX P w) (k + 1) f (spF T K (fnRun 1 1 false (b_is_whole F))) :=
  fn_sim (ps := ["thing"]) (N := ["thing"]) Fu sc_is_whole (Fu.binds fun _ _ _ _ _ _ us hl => match us, hl with | [_], _ => rfl) fun cdv A outer s H E hr hp tk =>
    (sims_cons (sim_ret (sim_and (sim_isi Z.n_isinstance Z.n_int (by first | rfl | decide +kernel) (sim_var 0)) (sim_one (sim_not (sim_isi Z.n_isinstance Z.n_bool (by first | rfl | decide +kernel) (sim_var 0))))))
    sims_nil)
def b_is_between (F : FnsT) : MS :=
  sSeq (sRet (mAnd (mAll (F 0) (aCons (mVar 0) (aNil))) (m3 fLe fLe (mVar 1) (mVar 0) (mVar 2)))) (sNil)
theorem fn_is_between (Z : Facts P w K mg base T F k) (Fu : Fun K "is_between" "is_between" s_is_between f fd) : FnR P w K mg base (L2.CX P w) (k + 1) f (spF T K (fnRun 3 3 false (b_is_between F))) :=
  fn_sim (ps := ["thing", "low", "high"]) (N := ["thing", "low", "high"]) Fu sc_is_between (Fu.binds fun _ _ _ _ _ _ us hl => match us, hl with | [_, _, _], _ => rfl) fun cdv A outer s H E hr hp tk =>
    (sims_cons (sim_ret (sim_and (sim_call ⟨Z.f_is_whole⟩ tk hr rfl (sim_cons (sim_var 0) sim_nil)) (sim_one (sim_chain_le_le (sim_var 1) (sim_var 0) (sim_var 2)))))
    sims_nil)
def b_check_number (F : FnsT) : MS :=
  sSeq (sIf (mNotT (mT (mAll (F 1) (aCons (mVar 0) (aCons (mVar 1) (aCons (mVar 2) (aNil))))))) (sSeq (sNo) (sNil)) (sNil)) (sNil)
theorem fn_check_number (Z : Facts P w K mg base T F k) (Fu : Fun K "check_number" "check_number" s_check_number f fd) : FnR P w K mg base (L2.CX P w) (k + 1) f (spF T K (fnRun 3 3 false (b_check_number F))) :=
  fn_sim (ps := ["number", "low", "high"]) (N := ["number", "low", "high"]) Fu sc_check_number (Fu.binds fun _ _ _ _ _ _ us hl => match us, hl with | [_, _, _], _ => rfl) fun cdv A outer s H E hr hp tk =>
    (sims_cons (sim_ifS (simT_not (sim_tV (sim_call ⟨Z.f_is_between⟩ tk hr rfl (sim_cons (sim_var 0) (sim_cons (sim_var 1) (sim_cons (sim_var 2) sim_nil)))))) (sims_cons sim_no
    sims_nil) sims_nil)
    sims_nil)
def b_Code_init (F : FnsT) : MS :=
  sSeq (sIf (mNotT (mT (mAll (F 17) (aCons (mVar 1) (aNil))))) (sSeq (sNo) (sNil)) (sNil)) (sSeq (sFldS 0 0 (mVar 0) (mVar 1)) (sSeq (sFldS 0 1 (mVar 0) (mDctT (iEnumT (aCons (mVar 1) (aNil))) (gT 2 (gsCons (gN 2) (gsCons (gN 3) (gsNil)))) (tYesM) (mVar 3) (mVar 2) [2, 3])) (sNil)))
theorem fn_Code_init (Z : Facts P w K mg base T F k) (Fu : Fun K "__init__" "Code.__init__" s_Code_init f fd) : FnR P w K mg base (L2.CX P w) (k + 1) f (spF T K (fnRunStar 1 4 false (b_Code_init F))) :=
  fn_simStar (ps := ["self"]) (pv := "words") (N := ["self", "words", "value", "word"]) Fu sc_Code_init (fun _ _ _ _ _ _ us rest hl => match us, rest, hl with | [_], [], _ => rfl | [_], _ :: _, _ => rfl) fun cdv A outer s H E hr hp tk =>
    (sims_cons (sim_ifS (simT_not (sim_tV (sim_call ⟨Z.f_are_words⟩ tk hr rfl (sim_cons (sim_var 1) sim_nil)))) (sims_cons sim_no
    sims_nil) sims_nil)
    (sims_cons (sim_setFld 0 0 Z.c_Code (by rw [Z.nm_Code]; rfl) (sim_var 1) (sim_var 0))
    (sims_cons (sim_setFld 0 1 Z.c_Code (by rw [Z.nm_Code]; rfl) (sim_dcT [("value", 2), ("word", 3)] hr rfl sc_Code_init.nd (sim_iEnumT Z.n_enumerate (sim_cons (sim_var 1) sim_nil)) (blkOk_by (N := ["self", "words", "value", "word"]) (sc := defScope s_Code_init) (by decide +kernel)) (fun _ _ _ _ _ => (sim_gT rfl (sim_gsCons (sim_gN 2 sc_Code_init.nd) (sim_gsCons (sim_gN 3 sc_Code_init.nd) sim_gsNil)))) (fun _ _ _ _ _ => simTs_nil) (fun _ _ _ _ _ => (sim_var 3)) (fun _ _ _ _ _ => (sim_var 2))) (sim_var 0))
    sims_nil)))
def b_Code_words (F : FnsT) : MS :=
  sSeq (sRet (mFld 0 0 (mVar 0))) (sNil)
theorem fn_Code_words (Z : Facts P w K mg base T F k) (Fu : Fun K "words" "Code.words" s_Code_words f fd) : FnR P w K mg base (L2.CX P w) (k + 1) f (spF T K (fnRun 1 1 false (b_Code_words F))) :=
  fn_sim (ps := ["self"]) (N := ["self"]) Fu sc_Code_words (Fu.binds fun _ _ _ _ _ _ us hl => match us, hl with | [_], _ => rfl) fun cdv A outer s H E hr hp tk =>
    (sims_cons (sim_ret (sim_fld 0 0 Z.c_Code (by rw [Z.nm_Code]; rfl) (sim_var 0)))
    sims_nil)
def b_is_word (F : FnsT) : MS :=
  sSeq (sRet (mAnd (m1 (fIsi "tuple") (mVar 0)) (mAnd (m2 (fEqD false) (mAll kLen (aCons (mVar 0) (aNil))) (mVar 1)) (mAll kAll (aCons (mComp (iSeq (mVar 0)) (gN 2) (tYesM) (mAll (F 1) (aCons (mVar 2) (aCons (mC (.int 0)) (aCons (mC (.int 1)) (aNil))))) [2]) (aNil)))))) (sNil)
theorem fn_is_word (Z : Facts P w K mg base T F k) (Fu : Fun K "is_word" "is_word" s_is_word f fd) : FnR P w K mg base (L2.CX P w) (k + 1) f (spF T K (fnRun 2 3 false (b_is_word F))) :=
  fn_sim (ps := ["thing", "bits"]) (N := ["thing", "bits", "bit"]) Fu sc_is_word (Fu.binds fun _ _ _ _ _ _ us hl => match us, hl with | [_, _], _ => rfl) fun cdv A outer s H E hr hp tk =>
    (sims_cons (sim_ret (sim_and (sim_isi Z.n_isinstance Z.n_tuple (by first | rfl | decide +kernel) (sim_var 0)) (sim_and (sim_eq hr (sim_len Z.n_len (sim_cons (sim_var 0) sim_nil)) (sim_var 1)) (sim_one (sim_all rfl Z.n_all (sim_cons (sim_lc [("bit", 2)] rfl sc_is_word.nd (sim_iS (sim_var 0)) (blkOk_by (N := ["thing", "bits", "bit"]) (sc := defScope s_is_word) (by decide +kernel)) (fun _ _ _ _ _ => (sim_gN 2 sc_is_word.nd)) (fun _ _ _ _ _ => simTs_nil) (fun _ _ _ _ _ => (sim_call ⟨Z.f_is_between⟩ takes0 hr rfl (sim_cons (sim_var 2) (sim_cons sim_int (sim_cons sim_int sim_nil)))))) sim_nil))))))
    sims_nil)
def b_are_words (F : FnsT) : MS :=
  sSeq (sIf (mNotT (mT (m3 fLe fLe (mC (.int 2)) (mAll kLen (aCons (mVar 0) (aNil))) (mC (.int 16))))) (sSeq (sRet (mC (.bl false))) (sNil)) (sNil)) (sSeq (sSet 1 (m2 fIdx (mVar 0) (mC (.int 0)))) (sSeq (sIf (mOrT (mNotT (mT (m1 (fIsi "tuple") (mVar 1)))) (mNotT (mT (m3 fLe fLe (mC (.int 1)) (mAll kLen (aCons (mVar 1) (aNil))) (mC (.int 5)))))) (sSeq (sRet (mC (.bl false))) (sNil)) (sNil)) (sSeq (sRet (mAnd (mAll kAll (aCons (mComp (iSeq (mVar 0)) (gN 2) (tYesM) (mAll (F 16) (aCons (mVar 2) (aCons (mAll kLen (aCons (mVar 1) (aNil))) (aNil)))) [2]) (aNil))) (m2 (fEqD false) (m1 kLenSetT (mVar 0)) (mAll kLen (aCons (mVar 0) (aNil)))))) (sNil))))
theorem fn_are_words (Z : Facts P w K mg base T F k) (Fu : Fun K "are_words" "are_words" s_are_words f fd) : FnR P w K mg base (L2.CX P w) (k + 1) f (spF T K (fnRun 1 3 false (b_are_words F))) :=
  fn_sim (ps := ["words"]) (N := ["words", "first", "word"]) Fu sc_are_words (Fu.binds fun _ _ _ _ _ _ us hl => match us, hl with | [_], _ => rfl) fun cdv A outer s H E hr hp tk =>
    (sims_cons (sim_ifS (simT_not (simT_chain_le_le sim_int (sim_len Z.n_len (sim_cons (sim_var 0) sim_nil)) (sim_glob Z.k_MOST_WORDS))) (sims_cons (sim_ret sim_bl)
    sims_nil) sims_nil)
    (sims_cons (sim_set 1 sc_are_words.nd (sim_idx (sim_var 0) sim_int))
    (sims_cons (sim_ifS (simT_W (simW_or (simT_not (sim_tV (sim_isi Z.n_isinstance Z.n_tuple (by first | rfl | decide +kernel) (sim_var 1)))) (simW_or1 (simT_not (simT_chain_le_le sim_int (sim_len Z.n_len (sim_cons (sim_var 1) sim_nil)) (sim_glob Z.k_MOST_BITS_codes)))))) (sims_cons (sim_ret sim_bl)
    sims_nil) sims_nil)
    (sims_cons (sim_ret (sim_and (sim_all rfl Z.n_all (sim_cons (sim_lc [("word", 2)] rfl sc_are_words.nd (sim_iS (sim_var 0)) (blkOk_by (N := ["words", "first", "word"]) (sc := defScope s_are_words) (by decide +kernel)) (fun _ _ _ _ _ => (sim_gN 2 sc_are_words.nd)) (fun _ _ _ _ _ => simTs_nil) (fun _ _ _ _ _ => (sim_call ⟨Z.f_is_word⟩ takes0 hr rfl (sim_cons (sim_var 2) (sim_cons (sim_len Z.n_len (sim_cons (sim_var 1) sim_nil)) sim_nil))))) sim_nil)) (sim_one (sim_eq hr (sim_lenSetT hr rfl Z.n_len Z.n_set (sim_var 0)) (sim_len Z.n_len (sim_cons (sim_var 0) sim_nil))))))
    sims_nil))))
def b_stepped (F : FnsT) : MS :=
  sSeq (sRet (mAll kTupD (aStar (mCut (mVar 0) (oNone) (oSome (mVar 1))) (aCons (m2 fSub (mC (.int 1)) (m2 fIdx (mVar 0) (mVar 1))) (aStar (mCut (mVar 0) (oSome (m2 fAdd (mVar 1) (mC (.int 1)))) (oNone)) (aNil)))))) (sNil)
theorem fn_stepped (Z : Facts P w K mg base T F k) (Fu : Fun K "stepped" "stepped" s_stepped f fd) : FnR P w K mg base (L2.CX P w) (k + 1) f (spF T K (fnRun 2 2 false (b_stepped F))) :=
  fn_sim (ps := ["word", "place"]) (N := ["word", "place"]) Fu sc_stepped (Fu.binds fun _ _ _ _ _ _ us hl => match us, hl with | [_, _], _ => rfl) fun cdv A outer s H E hr hp tk =>
    (sims_cons (sim_ret (sim_tup (sim_star (sim_cut (sim_var 0) sim_oNone (sim_oSome (sim_var 1))) (sim_cons (sim_sub sim_int (sim_idx (sim_var 0) (sim_var 1))) (sim_star (sim_cut (sim_var 0) (sim_oSome (sim_add (sim_var 1) sim_int)) sim_oNone) sim_nil)))))
    sims_nil)
def b_fresh_places (F : FnsT) : MS :=
  sSeq (sRet (mAll kLen (aCons (mComp (iRange1 (aCons (mAll kLen (aCons (m2 fIdx (mVar 0) (mC (.int 0))) (aNil))) (aNil))) (gN 1) (mT (m2 (fEqD false) (mAll kSum (aCons (mComp (iSeq (mVar 0)) (gN 2) (tYesM) (m2 fIdx (mVar 2) (mVar 1)) [2]) (aNil))) (mC (.int 0)))) (mVar 1) [1]) (aNil)))) (sNil)
theorem fn_fresh_places (Z : Facts P w K mg base T F k) (Fu : Fun K "fresh_places" "fresh_places" s_fresh_places f fd) : FnR P w K mg base (L2.CX P w) (k + 1) f (spF T K (fnRun 1 3 false (b_fresh_places F))) :=
  fn_sim (ps := ["words"]) (N := ["words", "place", "word"]) Fu sc_fresh_places (Fu.binds fun _ _ _ _ _ _ us hl => match us, hl with | [_], _ => rfl) fun cdv A outer s H E hr hp tk =>
    (sims_cons (sim_ret (sim_len Z.n_len (sim_cons (sim_lc [("place", 1)] rfl sc_fresh_places.nd (sim_iR1 Z.n_range (sim_cons (sim_len Z.n_len (sim_cons (sim_idx (sim_var 0) sim_int) sim_nil)) sim_nil)) (blkOk_by (N := ["words", "place", "word"]) (sc := defScope s_fresh_places) (by decide +kernel)) (fun _ _ _ _ _ => (sim_gN 1 sc_fresh_places.nd)) (fun _ _ _ _ _ => (simTs_one (simT_eq hr (sim_sum rfl Z.n_sum (sim_cons (sim_lc [("word", 2)] rfl sc_fresh_places.nd (sim_iS (sim_var 0)) (blkOk_re (blkOk_by (N := ["words", "place", "word"]) (by decide +kernel))) (fun _ _ _ _ _ => (sim_gN 2 sc_fresh_places.nd)) (fun _ _ _ _ _ => simTs_nil) (fun _ _ _ _ _ => (sim_idx (sim_var 2) (sim_var 1)))) sim_nil)) sim_int))) (fun _ _ _ _ _ => (sim_var 1))) sim_nil)))
    sims_nil)
def b_next_words (F : FnsT) : MS :=
  sSeq (sSet 2 (m2 fIdx (mVar 0) (m1 fUSub (mC (.int 1))))) (sSeq (sSet 3 (mAll kMax2 (aCons (mC (.int 0)) (aCons (m2 fSub (mAll (F 22) (aCons (mVar 0) (aNil))) (mC (.int 1))) (aNil))))) (sSeq (sSet 5 (mAll (kSortT 64) (aCons (mComp (iRange2 (aCons (mVar 3) (aCons (mAll kLen (aCons (mVar 2) (aNil))) (aNil)))) (gN 4) (tYesM) (mAll (F 21) (aCons (mVar 2) (aCons (mVar 4) (aNil)))) [4]) (aNil)))) (sSeq (sRet (mComp (iSeq (mVar 5)) (gN 6) (mAndT (mT (m2 (fIn true) (mVar 6) (mVar 0))) (mT (m2 fLe (mAll kSum (aCons (mVar 6) (aNil))) (mVar 1)))) (mVar 6) [6])) (sNil))))
theorem fn_next_words (Z : Facts P w K mg base T F k) (Fu : Fun K "next_words" "next_words" s_next_words f fd) : FnR P w K mg base (L2.CX P w) (k + 1) f (spF T K (fnRun 2 7 false (b_next_words F))) :=
  fn_sim (ps := ["words", "left"]) (N := ["words", "left", "last", "start", "place", "steps", "word"]) Fu sc_next_words (Fu.binds fun _ _ _ _ _ _ us hl => match us, hl with | [_, _], _ => rfl) fun cdv A outer s H E hr hp tk =>
    (sims_cons (sim_set 2 sc_next_words.nd (sim_idx (sim_var 0) (sim_neg sim_int)))
    (sims_cons (sim_set 3 sc_next_words.nd (sim_max2 rfl Z.n_max (sim_cons sim_int (sim_cons (sim_sub (sim_call ⟨Z.f_fresh_places⟩ tk hr rfl (sim_cons (sim_var 0) sim_nil)) sim_int) sim_nil))))
    (sims_cons (sim_set 5 sc_next_words.nd (sim_sortT 64 Z.n_sorted (by first | rfl | decide +kernel) (sim_cons (sim_lc [("place", 4)] rfl sc_next_words.nd (sim_iR2 Z.n_range (sim_cons (sim_var 3) (sim_cons (sim_len Z.n_len (sim_cons (sim_var 2) sim_nil)) sim_nil))) (blkOk_by (N := ["words", "left", "last", "start", "place", "steps", "word"]) (sc := defScope s_next_words) (by decide +kernel)) (fun _ _ _ _ _ => (sim_gN 4 sc_next_words.nd)) (fun _ _ _ _ _ => simTs_nil) (fun _ _ _ _ _ => (sim_call ⟨Z.f_stepped⟩ takes0 hr rfl (sim_cons (sim_var 2) (sim_cons (sim_var 4) sim_nil))))) sim_nil)))
    (sims_cons (sim_ret (sim_lc [("word", 6)] rfl sc_next_words.nd (sim_iS (sim_var 5)) (blkOk_by (N := ["words", "left", "last", "start", "place", "steps", "word"]) (sc := defScope s_next_words) (by decide +kernel)) (fun _ _ _ _ _ => (sim_gN 6 sc_next_words.nd)) (fun _ _ _ _ _ => (simTs_one (simT_W (simW_and (simT_notIn hr (sim_var 6) (sim_var 0)) (simW_and1 (simT_le (sim_sum rfl Z.n_sum (sim_cons (sim_var 6) sim_nil)) (sim_var 1))))))) (fun _ _ _ _ _ => (sim_var 6))))
    sims_nil))))
def b_grown (F : FnsT) : MS :=
  sSeq (sIf (mT (m2 (fEqD false) (mAll kLen (aCons (mVar 0) (aNil))) (mVar 1))) (sSeq (sRet (mIf (mT (mCallL 3 [26] F (aCons (mVar 0) (aNil)))) (mVar 0) (mC .non))) (sNil)) (sNil)) (sSeq (sFor (iSeq (mAll (F 23) (aCons (mVar 0) (aCons (m2 fSub (mVar 1) (mAll kLen (aCons (mVar 0) (aNil)))) (aNil))))) (gN 4) (sSeq (sSet 5 (mAll kLstD (aStar (mVar 0) (aCons (mVar 4) (aNil))))) (sSeq (sIf (mT (mCallL 2 [26] F (aCons (mVar 5) (aNil)))) (sSeq (sSet 6 (mAll (F 24) (aCons (mVar 5) (aCons (mVar 1) (aCons (mVar 2) (aCons (mVar 3) (aNil))))))) (sSeq (sIf (mT (m1 (fIsN true) (mVar 6))) (sSeq (sRet (mVar 6)) (sNil)) (sNil)) (sNil))) (sNil)) (sNil)))) (sSeq (sRet (mC .non)) (sNil)))
theorem fn_grown (Z : Facts P w K mg base T F k) (Fu : Fun K "grown" "grown" s_grown f fd) : FnR P w K mg base (L2.CX P w) (k + 1) f (spF T K (fnRun 4 7 false (b_grown F))) :=
  fn_sim (ps := ["words", "values", "fits", "closes"]) (N := ["words", "values", "fits", "closes", "word", "longer", "ring"]) Fu sc_grown (Fu.binds fun _ _ _ _ _ _ us hl => match us, hl with | [_, _, _, _], _ => rfl) fun cdv A outer s H E hr hp tk =>
    (sims_cons (sim_ifS (simT_eq hr (sim_len Z.n_len (sim_cons (sim_var 0) sim_nil)) (sim_var 1)) (sims_cons (sim_ret (sim_if (sim_tV (sim_callL 3 (fun i hi => ⟨(Z.vals i hi).1, (Z.vals i hi).2⟩) tk hr (sim_cons (sim_var 0) sim_nil))) (sim_var 0) sim_non))
    sims_nil) sims_nil)
    (sims_cons (sim_for hp rfl (sim_iS (sim_call ⟨Z.f_next_words⟩ tk hr rfl (sim_cons (sim_var 0) (sim_cons (sim_sub (sim_var 1) (sim_len Z.n_len (sim_cons (sim_var 0) sim_nil))) sim_nil)))) (sim_gN 4 sc_grown.nd) (sims_cons (sim_set 5 sc_grown.nd (sim_lst (sim_star (sim_var 0) (sim_cons (sim_var 4) sim_nil))))
    (sims_cons (sim_ifS (sim_tV (sim_callL 2 (fun i hi => ⟨(Z.vals i hi).1, (Z.vals i hi).2⟩) tk hr (sim_cons (sim_var 5) sim_nil))) (sims_cons (sim_set 6 sc_grown.nd (sim_call ⟨Z.f_grown⟩ tk hr rfl (sim_cons (sim_var 5) (sim_cons (sim_var 1) (sim_cons (sim_var 2) (sim_cons (sim_var 3) sim_nil))))))
    (sims_cons (sim_ifS (simT_notN (sim_var 6)) (sims_cons (sim_ret (sim_var 6))
    sims_nil) sims_nil)
    sims_nil)) sims_nil)
    sims_nil)))
    (sims_cons (sim_ret sim_non)
    sims_nil)))
def b_smallest (F : FnsT) : MS :=
  sSeq (sIf (mOrT (mT (m2 (fEqD false) (m2 fMod (mVar 0) (mC (.int 2))) (mC (.int 1)))) (mT (m2 fGt (mVar 0) (m2 fShl (mC (.int 1)) (mVar 1))))) (sSeq (sRet (mC .non)) (sNil)) (sNil)) (sSeq (sSet 4 (mAll (F 24) (aCons (mAll kLstD (aCons (m2 fRepU (mAll kTupD (aCons (mC (.int 0)) (aNil))) (mVar 1)) (aNil))) (aCons (mVar 0) (aCons (mVar 2) (aCons (mVar 3) (aNil))))))) (sSeq (sRet (mIf (mT (m1 (fIsN false) (mVar 4))) (mC .non) (mAll (kMake 0 false (F 3)) (aStar (mVar 4) aNil)))) (sNil)))
theorem fn_smallest (Z : Facts P w K mg base T F k) (Fu : Fun K "smallest" "smallest" s_smallest f fd) : FnR P w K mg base (L2.CX P w) (k + 1) f (spF T K (fnRun 4 5 false (b_smallest F))) :=
  fn_sim (ps := ["values", "bits", "fits", "closes"]) (N := ["values", "bits", "fits", "closes", "ring"]) Fu sc_smallest (Fu.binds fun _ _ _ _ _ _ us hl => match us, hl with | [_, _, _, _], _ => rfl) fun cdv A outer s H E hr hp tk =>
    (sims_cons (sim_ifS (simT_W (simW_or (simT_eq hr (sim_mod (sim_var 0) sim_int) sim_int) (simW_or1 (simT_gt (sim_var 0) (sim_shl sim_int (sim_var 1)))))) (sims_cons (sim_ret sim_non)
    sims_nil) sims_nil)
    (sims_cons (sim_set 4 sc_smallest.nd (sim_call ⟨Z.f_grown⟩ tk hr rfl (sim_cons (sim_lst (sim_cons (sim_repU (sim_tup (sim_cons sim_int sim_nil)) (sim_var 1)) sim_nil)) (sim_cons (sim_var 0) (sim_cons (sim_var 2) (sim_cons (sim_var 3) sim_nil))))))
    (sims_cons (sim_ret (sim_if (simT_isN (sim_var 4)) sim_non (sim_makeS 0 false ⟨Z.m_Code⟩ tk hr rfl (sim_var 4))))
    sims_nil)))
def b_anything (F : FnsT) : MS :=
  sSeq (sRet (mC (.bl true))) (sNil)
theorem fn_anything (Z : Facts P w K mg base T F k) (Fu : Fun K "anything" "anything" s_anything f fd) : FnR P w K mg base (L2.CX P w) (k + 1) f (spF T K (fnRun 1 1 false (b_anything F))) :=
  fn_sim (ps := ["words"]) (N := ["words"]) Fu sc_anything (Fu.binds fun _ _ _ _ _ _ us hl => match us, hl with | [_], _ => rfl) fun cdv A outer s H E hr hp tk =>
    (sims_cons (sim_ret sim_bl)
    sims_nil)
def b_check_sizes (F : FnsT) : MS :=
  sSeq (sExpr (mAll (F 2) (aCons (mVar 0) (aCons (mC (.int 2)) (aCons (mC (.int 16)) (aNil)))))) (sSeq (sExpr (mAll (F 2) (aCons (mVar 1) (aCons (mC (.int 1)) (aCons (mC (.int 4)) (aNil)))))) (sNil))
theorem fn_check_sizes (Z : Facts P w K mg base T F k) (Fu : Fun K "check_sizes" "check_sizes" s_check_sizes f fd) : FnR P w K mg base (L2.CX P w) (k + 1) f (spF T K (fnRun 2 2 false (b_check_sizes F))) :=
  fn_sim (ps := ["values", "bits"]) (N := ["values", "bits"]) Fu sc_check_sizes (Fu.binds fun _ _ _ _ _ _ us hl => match us, hl with | [_, _], _ => rfl) fun cdv A outer s H E hr hp tk =>
    (sims_cons (sim_expr (sim_call ⟨Z.f_check_number⟩ tk hr rfl (sim_cons (sim_var 0) (sim_cons sim_int (sim_cons (sim_glob Z.k_MOST_VALUES) sim_nil)))))
    (sims_cons (sim_expr (sim_call ⟨Z.f_check_number⟩ tk hr rfl (sim_cons (sim_var 1) (sim_cons sim_int (sim_cons (sim_glob Z.k_MOST_BITS_making) sim_nil)))))
    sims_nil))
def b_single (F : FnsT) : MS :=
  sSeq (sExpr (mAll (F 27) (aCons (mVar 0) (aCons (mVar 1) (aNil))))) (sSeq (sRet (mAll (F 25) (aCons (mVar 0) (aCons (mVar 1) (aCons (mC (.fn 26)) (aCons (mC (.fn 26)) (aNil))))))) (sNil))
theorem fn_single (Z : Facts P w K mg base T F k) (Fu : Fun K "single" "single" s_single f fd) : FnR P w K mg base (L2.CX P w) (k + 1) f (spF T K (fnRun 2 2 false (b_single F))) :=
  fn_sim (ps := ["values", "bits"]) (N := ["values", "bits"]) Fu sc_single (Fu.binds fun _ _ _ _ _ _ us hl => match us, hl with | [_, _], _ => rfl) fun cdv A outer s H E hr hp tk =>
    (sims_cons (sim_expr (sim_call ⟨Z.f_check_sizes⟩ tk hr rfl (sim_cons (sim_var 0) (sim_cons (sim_var 1) sim_nil))))
    (sims_cons (sim_ret (sim_call ⟨Z.f_smallest⟩ tk hr rfl (sim_cons (sim_var 0) (sim_cons (sim_var 1) (sim_cons (sim_fnV 26 Z.v_anything) (sim_cons (sim_fnV 26 Z.v_anything) sim_nil))))))
    sims_nil))
def b_law_cell_at (F : FnsT) : MS :=
  sSeq (sIf (mT (m2 fLt (mVar 1) (mAll kLen (aCons (mVar 0) (aNil))))) (sSeq (sRet (m2 fIdx (mVar 0) (mVar 1))) (sNil)) (sNil)) (sSeq (sRet (mC (.int 0))) (sNil))
theorem fn_law_cell_at (Z : Facts P w K mg base T F k) (Fu : Fun K "_law_cell_at" "_law_cell_at" s_law_cell_at f fd) : FnR P w K mg base (L2.CX P w) (k + 1) f (spF T K (fnRun 2 2 false (b_law_cell_at F))) :=
  fn_sim (ps := ["_law_script", "_law_k"]) (N := ["_law_script", "_law_k"]) Fu sc_law_cell_at (Fu.binds fun _ _ _ _ _ _ us hl => match us, hl with | [_, _], _ => rfl) fun cdv A outer s H E hr hp tk =>
    (sims_cons (sim_ifS (simT_lt (sim_var 1) (sim_len Z.n_len (sim_cons (sim_var 0) sim_nil))) (sims_cons (sim_ret (sim_idx (sim_var 0) (sim_var 1)))
    sims_nil) sims_nil)
    (sims_cons (sim_ret sim_int)
    sims_nil))
def b_law_pen (F : FnsT) : MS :=
  sSeq (sRet (mAll kLstT (aCons (mAll kMax2 (aCons (mC (.int 0)) (aCons (m2 fSub (mVar 0) (m2 fPow (mC (.int 10)) (mC (.int 18)))) (aNil)))) (aCons (m2 fAdd (m2 fMod (mVar 0) (mC (.int 2147483629))) (mC (.int 1))) (aCons (mC (.int 0)) (aNil)))))) (sNil)
theorem fn_law_pen (Z : Facts P w K mg base T F k) (Fu : Fun K "_law_pen" "_law_pen" s_law_pen f fd) : FnR P w K mg base (L2.CX P w) (k + 1) f (spF T K (fnRun 1 1 true (b_law_pen F))) :=
  fn_sim (ps := ["_law_cell"]) (N := ["_law_cell"]) Fu sc_law_pen (Fu.binds fun _ _ _ _ _ _ us hl => match us, hl with | [_], _ => rfl) fun cdv A outer s H E hr hp tk =>
    (sims_cons (sim_ret (sim_lstT (sim_cons (sim_max2 rfl Z.n_max (sim_cons sim_int (sim_cons (sim_sub (sim_var 0) (sim_pow sim_int sim_int)) sim_nil))) (sim_cons (sim_add (sim_mod (sim_var 0) sim_int) sim_int) (sim_cons sim_int sim_nil)))))
    sims_nil)
def b_law_draw (F : FnsT) : MS :=
  sSeq (sIf (mT (m2 fGt (m2 fIdx (mVar 0) (mC (.int 0))) (mC (.int 0)))) (sSeq (sSet 2 (m2 fMod (m2 fIdx (mVar 0) (mC (.int 0))) (mVar 1))) (sSeq (sSub (m2 fDiv (m2 fIdx (mVar 0) (mC (.int 0))) (mVar 1)) (mVar 0) (mC (.int 0))) (sSeq (sRet (mVar 2)) (sNil)))) (sNil)) (sSeq (sSub (m2 fAdd (m2 fIdx (mVar 0) (mC (.int 2))) (mC (.int 1))) (mVar 0) (mC (.int 2))) (sSeq (sSub (m2 fMod (m2 fAdd (m2 fAdd (m2 fMulI (m2 fIdx (mVar 0) (mC (.int 1))) (mC (.int 48271))) (m2 fMulI (mC (.int 1009)) (m2 fIdx (mVar 0) (mC (.int 2))))) (mC (.int 7))) (mC (.int 2147483647))) (mVar 0) (mC (.int 1))) (sSeq (sSet 3 (m2 fMod (m2 fAdd (m2 fAdd (m2 fMulI (m2 fIdx (mVar 0) (mC (.int 1))) (m2 fIdx (mVar 0) (mC (.int 1)))) (m2 fMulI (mC (.int 69621)) (m2 fIdx (mVar 0) (mC (.int 1))))) (mC (.int 11))) (mC (.int 2147483629)))) (sSeq (sSet 3 (m2 fMod (m2 fAdd (m2 fMulI (mVar 3) (mVar 3)) (m2 fMulI (mC (.int 40014)) (mVar 3))) (mC (.int 2147483587)))) (sSeq (sRet (m2 fMod (m2 fDiv (mVar 3) (mC (.int 16))) (mVar 1))) (sNil))))))
theorem fn_law_draw (Z : Facts P w K mg base T F k) (Fu : Fun K "_law_draw" "_law_draw" s_law_draw f fd) : FnR P w K mg base (L2.CX P w) (k + 1) f (spF T K (fnRun 2 4 false (b_law_draw F))) :=
  fn_sim (ps := ["_law_pen_here", "_law_many"]) (N := ["_law_pen_here", "_law_many", "_law_found", "_law_mixed_here"]) Fu sc_law_draw (Fu.binds fun _ _ _ _ _ _ us hl => match us, hl with | [_, _], _ => rfl) fun cdv A outer s H E hr hp tk =>
    (sims_cons (sim_ifS (simT_gt (sim_idx (sim_var 0) sim_int) sim_int) (sims_cons (sim_set 2 sc_law_draw.nd (sim_mod (sim_idx (sim_var 0) sim_int) (sim_var 1)))
    (sims_cons (sim_setSub (sim_div (sim_idx (sim_var 0) sim_int) (sim_var 1)) (sim_var 0) sim_int)
    (sims_cons (sim_ret (sim_var 2))
    sims_nil))) sims_nil)
    (sims_cons (sim_setSub (sim_add (sim_idx (sim_var 0) sim_int) sim_int) (sim_var 0) sim_int)
    (sims_cons (sim_setSub (sim_mod (sim_add (sim_add (sim_mulI (sim_idx (sim_var 0) sim_int) sim_int) (sim_mulI sim_int (sim_idx (sim_var 0) sim_int))) sim_int) sim_int) (sim_var 0) sim_int)
    (sims_cons (sim_set 3 sc_law_draw.nd (sim_mod (sim_add (sim_add (sim_mulI (sim_idx (sim_var 0) sim_int) (sim_idx (sim_var 0) sim_int)) (sim_mulI sim_int (sim_idx (sim_var 0) sim_int))) sim_int) sim_int))
    (sims_cons (sim_set 3 sc_law_draw.nd (sim_mod (sim_add (sim_mulI (sim_var 3) (sim_var 3)) (sim_mulI sim_int (sim_var 3))) sim_int))
    (sims_cons (sim_ret (sim_mod (sim_div (sim_var 3) sim_int) (sim_var 1)))
    sims_nil))))))
def b_law_mixed (F : FnsT) : MS :=
  sSeq (sSet 2 (mAll kListT (aCons (mVar 1) (aNil)))) (sSeq (sRet (mComp (iSeq (mVar 1)) (gN 3) (tYesM) (mMethL fPopAt (mVar 2) (aCons (mAll (F 31) (aCons (mVar 0) (aCons (mAll kLen (aCons (mVar 2) (aNil))) (aNil)))) (aNil))) [3])) (sNil))
theorem fn_law_mixed (Z : Facts P w K mg base T F k) (Fu : Fun K "_law_mixed" "_law_mixed" s_law_mixed f fd) : FnR P w K mg base (L2.CX P w) (k + 1) f (spF T K (fnRun 2 4 false (b_law_mixed F))) :=
  fn_sim (ps := ["_law_pen_here", "_law_some"]) (N := ["_law_pen_here", "_law_some", "_law_left", "_law_one"]) Fu sc_law_mixed (Fu.binds fun _ _ _ _ _ _ us hl => match us, hl with | [_, _], _ => rfl) fun cdv A outer s H E hr hp tk =>
    (sims_cons (sim_set 2 sc_law_mixed.nd (sim_listT Z.n_list (sim_cons (sim_var 1) sim_nil)))
    (sims_cons (sim_ret (sim_lc [("_law_one", 3)] rfl sc_law_mixed.nd (sim_iS (sim_var 1)) (blkOk_by (N := ["_law_pen_here", "_law_some", "_law_left", "_law_one"]) (sc := defScope s_law_mixed) (by decide +kernel)) (fun _ _ _ _ _ => (sim_gN 3 sc_law_mixed.nd)) (fun _ _ _ _ _ => simTs_nil) (fun _ _ _ _ _ => (sim_popAt (sim_var 2) (sim_cons (sim_call ⟨Z.f_law_draw⟩ takes0 hr rfl (sim_cons (sim_var 0) (sim_cons (sim_len Z.n_len (sim_cons (sim_var 2) sim_nil)) sim_nil))) sim_nil)))))
    sims_nil))
def b_law_all (F : FnsT) : MS :=
  sSeq (sSet 1 (mAll kLstD (aCons (mAll kTupD (aNil)) (aNil)))) (sSeq (sFor (iRange1 (aCons (mVar 0) (aNil))) (gN 2) (sSeq (sSet 3 (mAll kLstT (aNil))) (sSeq (sFor (iSeq (mVar 1)) (gN 4) (sSeq (sExpr (mMethL fExtend (mVar 3) (aCons (mAll kLstD (aCons (m2 fAdd (mVar 4) (mAll kTupD (aCons (mC (.int 0)) (aNil)))) (aCons (m2 fAdd (mVar 4) (mAll kTupD (aCons (mC (.int 1)) (aNil)))) (aNil)))) (aNil)))) (sNil))) (sSeq (sSet 1 (mVar 3)) (sNil))))) (sSeq (sRet (mVar 1)) (sNil)))
theorem fn_law_all (Z : Facts P w K mg base T F k) (Fu : Fun K "_law_all" "_law_all" s_law_all f fd) : FnR P w K mg base (L2.CX P w) (k + 1) f (spF T K (fnRun 1 5 false (b_law_all F))) :=
  fn_sim (ps := ["_law_many"]) (N := ["_law_many", "_law_found", "_law_turn", "_law_longer", "_law_row"]) Fu sc_law_all (Fu.binds fun _ _ _ _ _ _ us hl => match us, hl with | [_], _ => rfl) fun cdv A outer s H E hr hp tk =>
    (sims_cons (sim_set 1 sc_law_all.nd (sim_lst (sim_cons (sim_tup sim_nil) sim_nil)))
    (sims_cons (sim_for hp rfl (sim_iR1 Z.n_range (sim_cons (sim_var 0) sim_nil)) (sim_gN 2 sc_law_all.nd) (sims_cons (sim_set 3 sc_law_all.nd (sim_lstT sim_nil))
    (sims_cons (sim_for hp rfl (sim_iS (sim_var 1)) (sim_gN 4 sc_law_all.nd) (sims_cons (sim_expr (sim_extend (sim_var 3) (sim_cons (sim_lst (sim_cons (sim_add (sim_var 4) (sim_tup (sim_cons sim_int sim_nil))) (sim_cons (sim_add (sim_var 4) (sim_tup (sim_cons sim_int sim_nil))) sim_nil))) sim_nil)))
    sims_nil))
    (sims_cons (sim_set 1 sc_law_all.nd (sim_var 3))
    sims_nil))))
    (sims_cons (sim_ret (sim_var 1))
    sims_nil)))
def b_law_near (F : FnsT) : MS :=
  sSeq (sRet (mAll (kSortT 64) (aCons (mComp (iRange1 (aCons (mAll kLen (aCons (mVar 0) (aNil))) (aNil))) (gN 1) (tYesM) (m2 fAdd (m2 fAdd (mCut (mVar 0) (oNone) (oSome (mVar 1))) (mAll kTupD (aCons (m2 fSub (mC (.int 1)) (m2 fIdx (mVar 0) (mVar 1))) (aNil)))) (mCut (mVar 0) (oSome (m2 fAdd (mVar 1) (mC (.int 1)))) (oNone))) [1]) (aNil)))) (sNil)
theorem fn_law_near (Z : Facts P w K mg base T F k) (Fu : Fun K "_law_near" "_law_near" s_law_near f fd) : FnR P w K mg base (L2.CX P w) (k + 1) f (spF T K (fnRun 1 2 false (b_law_near F))) :=
  fn_sim (ps := ["_law_row"]) (N := ["_law_row", "_law_at"]) Fu sc_law_near (Fu.binds fun _ _ _ _ _ _ us hl => match us, hl with | [_], _ => rfl) fun cdv A outer s H E hr hp tk =>
    (sims_cons (sim_ret (sim_sortT 64 Z.n_sorted (by first | rfl | decide +kernel) (sim_cons (sim_lc [("_law_at", 1)] rfl sc_law_near.nd (sim_iR1 Z.n_range (sim_cons (sim_len Z.n_len (sim_cons (sim_var 0) sim_nil)) sim_nil)) (blkOk_by (N := ["_law_row", "_law_at"]) (sc := defScope s_law_near) (by decide +kernel)) (fun _ _ _ _ _ => (sim_gN 1 sc_law_near.nd)) (fun _ _ _ _ _ => simTs_nil) (fun _ _ _ _ _ => (sim_add (sim_add (sim_cut (sim_var 0) sim_oNone (sim_oSome (sim_var 1))) (sim_tup (sim_cons (sim_sub sim_int (sim_idx (sim_var 0) (sim_var 1))) sim_nil))) (sim_cut (sim_var 0) (sim_oSome (sim_add (sim_var 1) sim_int)) sim_oNone)))) sim_nil)))
    sims_nil)
def b_law_apart (F : FnsT) : MS :=
  sSeq (sRet (mComp (iRange1 (aCons (mAll kLen (aCons (mVar 0) (aNil))) (aNil))) (gN 2) (mT (m2 (fEqD true) (m2 fIdx (mVar 0) (mVar 2)) (m2 fIdx (mVar 1) (mVar 2)))) (mVar 2) [2])) (sNil)
theorem fn_law_apart (Z : Facts P w K mg base T F k) (Fu : Fun K "_law_apart" "_law_apart" s_law_apart f fd) : FnR P w K mg base (L2.CX P w) (k + 1) f (spF T K (fnRun 2 3 false (b_law_apart F))) :=
  fn_sim (ps := ["_law_row", "_law_other"]) (N := ["_law_row", "_law_other", "_law_at"]) Fu sc_law_apart (Fu.binds fun _ _ _ _ _ _ us hl => match us, hl with | [_, _], _ => rfl) fun cdv A outer s H E hr hp tk =>
    (sims_cons (sim_ret (sim_lc [("_law_at", 2)] rfl sc_law_apart.nd (sim_iR1 Z.n_range (sim_cons (sim_len Z.n_len (sim_cons (sim_var 0) sim_nil)) sim_nil)) (blkOk_by (N := ["_law_row", "_law_other", "_law_at"]) (sc := defScope s_law_apart) (by decide +kernel)) (fun _ _ _ _ _ => (sim_gN 2 sc_law_apart.nd)) (fun _ _ _ _ _ => (simTs_one (simT_ne hr (sim_idx (sim_var 0) (sim_var 2)) (sim_idx (sim_var 1) (sim_var 2))))) (fun _ _ _ _ _ => (sim_var 2))))
    sims_nil)
def b_law_rings (F : FnsT) : MS :=
  sSeq (sPar 3 4 (aCons (mAll kLstT (aNil)) (aCons (mAll kLstT (aCons (mAll kLstD (aCons (m2 fRepU (mAll kTupD (aCons (mC (.int 0)) (aNil))) (mVar 1)) (aNil))) (aNil))) (aNil)))) (sSeq (whileS (mAndT (mT (m2 (fEqD true) (mVar 4) (mAll kLstD (aNil)))) (mT (m2 fLt (mAll kLen (aCons (mVar 3) (aNil))) (mVar 2)))) (sSeq (sSet 5 (mMethL fPop (mVar 4) aNil)) (sSeq (sSet 6 (m2 fSub (mVar 0) (mAll kLen (aCons (mVar 5) (aNil))))) (sSeq (sIf (mT (m2 (fEqD false) (mVar 6) (mC (.int 0)))) (sSeq (sExpr (mMethL fAppend (mVar 3) (aCons (mAll kTuple (aCons (mVar 5) (aNil))) (aNil)))) (sNil)) (sNil)) (sSeq (sFor (iSeq (m2 fRepL (m1 fRev (mAll (F 34) (aCons (m2 fIdx (mVar 5) (m1 fUSub (mC (.int 1)))) (aNil)))) (mAll kInt (aCons (m2 fGt (mVar 6) (mC (.int 0))) (aNil))))) (gN 7) (sSeq (sIf (mAndT (mT (m2 (fIn true) (mVar 7) (mVar 5))) (mT (m2 fLe (mAll kLen (aCons (mAll (F 35) (aCons (mVar 7) (aCons (m2 fIdx (mVar 5) (mC (.int 0))) (aNil)))) (aNil))) (mVar 6)))) (sSeq (sExpr (mMethL fAppend (mVar 4) (aCons (m2 fAdd (mVar 5) (mAll kLstD (aCons (mVar 7) (aNil)))) (aNil)))) (sNil)) (sNil)) (sNil))) (sNil))))) 1000000) (sSeq (sRet (mVar 3)) (sNil)))
theorem fn_law_rings (Z : Facts P w K mg base T F k) (Fu : Fun K "_law_rings" "_law_rings" s_law_rings f fd) : FnR P w K mg base (L2.CX P w) (k + 1) f (spF T K (fnRun 3 8 false (b_law_rings F))) :=
  fn_sim (ps := ["_law_many", "_law_wide", "_law_limit"]) (N := ["_law_many", "_law_wide", "_law_limit", "_law_found", "_law_waiting", "_law_rows", "_law_left", "_law_row"]) Fu sc_law_rings (Fu.binds fun _ _ _ _ _ _ us hl => match us, hl with | [_, _, _], _ => rfl) fun cdv A outer s H E hr hp tk =>
    (sims_cons (sim_par 3 4 rfl sc_law_rings.nd (sim_cons (sim_lstT sim_nil) (sim_cons (sim_lstT (sim_cons (sim_lst (sim_cons (sim_repU (sim_tup (sim_cons sim_int sim_nil)) (sim_var 1)) sim_nil)) sim_nil)) sim_nil)))
    (sims_cons (sim_while 1000000 hp (simT_W (simW_and (simT_ne hr (sim_var 4) (sim_lst sim_nil)) (simW_and1 (simT_lt (sim_len Z.n_len (sim_cons (sim_var 3) sim_nil)) (sim_var 2))))) (sims_cons (sim_set 5 sc_law_rings.nd (sim_pop (sim_var 4)))
    (sims_cons (sim_set 6 sc_law_rings.nd (sim_sub (sim_var 0) (sim_len Z.n_len (sim_cons (sim_var 5) sim_nil))))
    (sims_cons (sim_ifS (simT_eq hr (sim_var 6) sim_int) (sims_cons (sim_expr (sim_append (sim_var 3) (sim_cons (sim_tuple Z.n_tuple (sim_cons (sim_var 5) sim_nil)) sim_nil)))
    sims_nil) sims_nil)
    (sims_cons (sim_for hp rfl (sim_iS (sim_repL (sim_rev (sim_call ⟨Z.f_law_near⟩ tk hr rfl (sim_cons (sim_idx (sim_var 5) (sim_neg sim_int)) sim_nil))) (sim_int1 Z.n_int (sim_cons (sim_gt (sim_var 6) sim_int) sim_nil)))) (sim_gN 7 sc_law_rings.nd) (sims_cons (sim_ifS (simT_W (simW_and (simT_notIn hr (sim_var 7) (sim_var 5)) (simW_and1 (simT_le (sim_len Z.n_len (sim_cons (sim_call ⟨Z.f_law_apart⟩ tk hr rfl (sim_cons (sim_var 7) (sim_cons (sim_idx (sim_var 5) sim_int) sim_nil))) sim_nil)) (sim_var 6))))) (sims_cons (sim_expr (sim_append (sim_var 4) (sim_cons (sim_add (sim_var 5) (sim_lst (sim_cons (sim_var 7) sim_nil))) sim_nil)))
    sims_nil) sims_nil)
    sims_nil))
    sims_nil)))))
    (sims_cons (sim_ret (sim_var 3))
    sims_nil)))
def b_law_due (F : FnsT) : MS :=
  sSeq (sSet 2 (mIf (mAndT (mT (m2 (fEqD false) (m2 fMod (mVar 0) (mC (.int 2))) (mC (.int 0)))) (mT (m2 fLe (mVar 0) (mAll kLen (aCons (mAll (F 33) (aCons (mVar 1) (aNil))) (aNil)))))) (mAll (F 36) (aCons (mVar 0) (aCons (mVar 1) (aCons (mC (.int 1)) (aNil))))) (mAll kLstD (aNil)))) (sSeq (sRet (mIf (mT (m2 (fEqD true) (mVar 2) (mAll kLstD (aNil)))) (m2 fIdx (mVar 2) (mC (.int 0))) (mC .non))) (sNil))
theorem fn_law_due (Z : Facts P w K mg base T F k) (Fu : Fun K "_law_due" "_law_due" s_law_due f fd) : FnR P w K mg base (L2.CX P w) (k + 1) f (spF T K (fnRun 2 3 false (b_law_due F))) :=
  fn_sim (ps := ["_law_many", "_law_wide"]) (N := ["_law_many", "_law_wide", "_law_rings_here"]) Fu sc_law_due (Fu.binds fun _ _ _ _ _ _ us hl => match us, hl with | [_, _], _ => rfl) fun cdv A outer s H E hr hp tk =>
    (sims_cons (sim_set 2 sc_law_due.nd (sim_if (simT_W (simW_and (simT_eq hr (sim_mod (sim_var 0) sim_int) sim_int) (simW_and1 (simT_le (sim_var 0) (sim_len Z.n_len (sim_cons (sim_call ⟨Z.f_law_all⟩ tk hr rfl (sim_cons (sim_var 1) sim_nil)) sim_nil)))))) (sim_call ⟨Z.f_law_rings⟩ tk hr rfl (sim_cons (sim_var 0) (sim_cons (sim_var 1) (sim_cons sim_int sim_nil)))) (sim_lst sim_nil)))
    (sims_cons (sim_ret (sim_if (simT_ne hr (sim_var 2) (sim_lst sim_nil)) (sim_idx (sim_var 2) sim_int) sim_non))
    sims_nil))
def b_law (F : FnsT) : MS :=
  sSeq (sFor (iRange1 (aCons (mAll kMax2 (aCons (mC (.int 1)) (aCons (mAll kMin2 (aCons (mAll kLen (aCons (mVar 0) (aNil))) (aCons (mC (.int 3)) (aNil)))) (aNil)))) (aNil))) (gN 1) (sSeq (sSet 2 (mAll (F 30) (aCons (mAll (F 29) (aCons (mVar 0) (aCons (mVar 1) (aNil)))) (aNil)))) (sSeq (sFor (iRange2 (aCons (mC (.int 1)) (aCons (mC (.int 5)) (aNil)))) (gN 3) (sSeq (sFor (iSeq (m2 fAdd (mCut (mAll (F 32) (aCons (mVar 2) (aCons (m2 (fun v w h => kRange [v, w] h) (mC (.int 2)) (mC (.int 17))) (aNil)))) (oNone) (oSome (mC (.int 5)))) (mAll kLstD (aCons (mAll kLen (aCons (mAll (F 33) (aCons (mVar 3) (aNil))) (aNil))) (aCons (m2 fAdd (mAll kLen (aCons (mAll (F 33) (aCons (mVar 3) (aNil))) (aNil))) (mC (.int 2))) (aNil)))))) (gN 4) (sSeq (sSet 5 (mIf (mT (m2 fLt (mVar 4) (mC (.int 17)))) (mAll (F 37) (aCons (mVar 4) (aCons (mVar 3) (aNil)))) (mC .non))) (sSeq (sFor (iRange1 (aCons (m2 fMulI (mC (.int 2)) (mAll kInt (aCons (m2 fLt (mVar 4) (mC (.int 17))) (aNil)))) (aNil))) (gN 6) (sSeq (sSet 7 (mAll (F 28) (aCons (mVar 4) (aCons (mVar 3) (aNil))))) (sSeq (sIf (mOrT (mT (m2 (fEqD true) (m1 (fIsN false) (mVar 7)) (m1 (fIsN false) (mVar 5)))) (mAndT (mT (m1 (fIsN true) (mVar 7))) (mT (m2 (fEqD true) (mProp 0 (F 4) (mVar 7)) (mVar 5))))) (sSeq (sRet (mC (.bl false))) (sNil)) (sNil)) (sNil)))) (sNil)))) (sNil))) (sNil)))) (sSeq (sRet (mC (.bl true))) (sNil))
theorem fn_law (Z : Facts P w K mg base T F k) (Fu : Fun K "law" "law" s_law f fd) : FnR P w K mg base (L2.CX P w) (k + 1) f (spF T K (fnRun 1 8 false (b_law F))) :=
  fn_sim (ps := ["_law_script"]) (N := ["_law_script", "_law_k", "_law_pen_here", "_law_wide", "_law_many", "_law_due_here", "_law_turn", "_law_told"]) Fu sc_law (Fu.binds fun _ _ _ _ _ _ us hl => match us, hl with | [_], _ => rfl) fun cdv A outer s H E hr hp tk =>
    (sims_cons (sim_for hp rfl (sim_iR1 Z.n_range (sim_cons (sim_max2 rfl Z.n_max (sim_cons sim_int (sim_cons (sim_min2 rfl Z.n_min (sim_cons (sim_len Z.n_len (sim_cons (sim_var 0) sim_nil)) (sim_cons sim_int sim_nil))) sim_nil))) sim_nil)) (sim_gN 1 sc_law.nd) (sims_cons (sim_set 2 sc_law.nd (sim_call ⟨Z.f_law_pen⟩ tk hr rfl (sim_cons (sim_call ⟨Z.f_law_cell_at⟩ tk hr rfl (sim_cons (sim_var 0) (sim_cons (sim_var 1) sim_nil))) sim_nil)))
    (sims_cons (sim_for hp rfl (sim_iR2 Z.n_range (sim_cons sim_int (sim_cons sim_int sim_nil))) (sim_gN 3 sc_law.nd) (sims_cons (sim_for hp rfl (sim_iS (sim_add (sim_cut (sim_call ⟨Z.f_law_mixed⟩ tk hr rfl (sim_cons (sim_var 2) (sim_cons (sim_listR2 rfl Z.n_list Z.n_range sim_int sim_int) sim_nil))) sim_oNone (sim_oSome sim_int)) (sim_lst (sim_cons (sim_len Z.n_len (sim_cons (sim_call ⟨Z.f_law_all⟩ tk hr rfl (sim_cons (sim_var 3) sim_nil)) sim_nil)) (sim_cons (sim_add (sim_len Z.n_len (sim_cons (sim_call ⟨Z.f_law_all⟩ tk hr rfl (sim_cons (sim_var 3) sim_nil)) sim_nil)) sim_int) sim_nil))))) (sim_gN 4 sc_law.nd) (sims_cons (sim_set 5 sc_law.nd (sim_if (simT_lt (sim_var 4) sim_int) (sim_call ⟨Z.f_law_due⟩ tk hr rfl (sim_cons (sim_var 4) (sim_cons (sim_var 3) sim_nil))) sim_non))
    (sims_cons (sim_for hp rfl (sim_iR1 Z.n_range (sim_cons (sim_mulI sim_int (sim_int1 Z.n_int (sim_cons (sim_lt (sim_var 4) sim_int) sim_nil))) sim_nil)) (sim_gN 6 sc_law.nd) (sims_cons (sim_set 7 sc_law.nd (sim_call ⟨Z.f_single⟩ tk hr rfl (sim_cons (sim_var 4) (sim_cons (sim_var 3) sim_nil))))
    (sims_cons (sim_ifS (simT_W (simW_or (simT_ne hr (sim_isN (sim_var 7)) (sim_isN (sim_var 5))) (simW_or1 (simT_W (simW_and (simT_notN (sim_var 7)) (simW_and1 (simT_ne hr (sim_prop 0 ⟨Z.p_Code_words⟩ Z.c_Code hr (sim_var 7)) (sim_var 5)))))))) (sims_cons (sim_ret sim_bl)
    sims_nil) sims_nil)
    sims_nil)))
    sims_nil)))
    sims_nil))
    sims_nil)))
    (sims_cons (sim_ret sim_bl)
    sims_nil))
end
def FT : Nat → FnsT
  | 0 => fun _ _ _ => none
  | n + 1 => fun i => match i with
    | 0 => frame (fnRun 1 1 false (b_is_whole (FT n)))
    | 1 => frame (fnRun 3 3 false (b_is_between (FT n)))
    | 2 => frame (fnRun 3 3 false (b_check_number (FT n)))
    | 3 => frame (fnRunStar 1 4 false (b_Code_init (FT n)))
    | 4 => frame (fnRun 1 1 false (b_Code_words (FT n)))
    | 16 => frame (fnRun 2 3 false (b_is_word (FT n)))
    | 17 => frame (fnRun 1 3 false (b_are_words (FT n)))
    | 21 => frame (fnRun 2 2 false (b_stepped (FT n)))
    | 22 => frame (fnRun 1 3 false (b_fresh_places (FT n)))
    | 23 => frame (fnRun 2 7 false (b_next_words (FT n)))
    | 24 => frame (fnRun 4 7 false (b_grown (FT n)))
    | 25 => frame (fnRun 4 5 false (b_smallest (FT n)))
    | 26 => frame (fnRun 1 1 false (b_anything (FT n)))
    | 27 => frame (fnRun 2 2 false (b_check_sizes (FT n)))
    | 28 => frame (fnRun 2 2 false (b_single (FT n)))
    | 29 => frame (fnRun 2 2 false (b_law_cell_at (FT n)))
    | 30 => fnRun 1 1 true (b_law_pen (FT n))
    | 31 => frame (fnRun 2 4 false (b_law_draw (FT n)))
    | 32 => frame (fnRun 2 4 false (b_law_mixed (FT n)))
    | 33 => frame (fnRun 1 5 false (b_law_all (FT n)))
    | 34 => frame (fnRun 1 2 false (b_law_near (FT n)))
    | 35 => frame (fnRun 2 3 false (b_law_apart (FT n)))
    | 36 => frame (fnRun 3 8 false (b_law_rings (FT n)))
    | 37 => frame (fnRun 2 3 false (b_law_due (FT n)))
    | 38 => frame (fnRun 1 8 false (b_law (FT n)))
    | _ => fun _ _ => none
structure Base (K : PySem.W.Frag) (mg : Str → Option Value) (T : Tb) (ad : Nat → Addr) : Prop where
  F_is_whole : ∃ fd, Fun K "is_whole" "is_whole" s_is_whole (ad 0) fd
  g_is_whole : mg "is_whole" = some (.ref (ad 0))
  F_is_between : ∃ fd, Fun K "is_between" "is_between" s_is_between (ad 1) fd
  g_is_between : mg "is_between" = some (.ref (ad 1))
  F_check_number : ∃ fd, Fun K "check_number" "check_number" s_check_number (ad 2) fd
  g_check_number : mg "check_number" = some (.ref (ad 2))
  F_Code_init : ∃ fd, Fun K "__init__" "Code.__init__" s_Code_init (ad 3) fd
  F_Code_words : ∃ fd, Fun K "words" "Code.words" s_Code_words (ad 4) fd
  F_is_word : ∃ fd, Fun K "is_word" "is_word" s_is_word (ad 16) fd
  g_is_word : mg "is_word" = some (.ref (ad 16))
  F_are_words : ∃ fd, Fun K "are_words" "are_words" s_are_words (ad 17) fd
  g_are_words : mg "are_words" = some (.ref (ad 17))
  F_stepped : ∃ fd, Fun K "stepped" "stepped" s_stepped (ad 21) fd
  g_stepped : mg "stepped" = some (.ref (ad 21))
  F_fresh_places : ∃ fd, Fun K "fresh_places" "fresh_places" s_fresh_places (ad 22) fd
  g_fresh_places : mg "fresh_places" = some (.ref (ad 22))
  F_next_words : ∃ fd, Fun K "next_words" "next_words" s_next_words (ad 23) fd
  g_next_words : mg "next_words" = some (.ref (ad 23))
  F_grown : ∃ fd, Fun K "grown" "grown" s_grown (ad 24) fd
  g_grown : mg "grown" = some (.ref (ad 24))
  F_smallest : ∃ fd, Fun K "smallest" "smallest" s_smallest (ad 25) fd
  g_smallest : mg "smallest" = some (.ref (ad 25))
  F_anything : ∃ fd, Fun K "anything" "anything" s_anything (ad 26) fd
  g_anything : mg "anything" = some (.ref (ad 26))
  F_check_sizes : ∃ fd, Fun K "check_sizes" "check_sizes" s_check_sizes (ad 27) fd
  g_check_sizes : mg "check_sizes" = some (.ref (ad 27))
  F_single : ∃ fd, Fun K "single" "single" s_single (ad 28) fd
  g_single : mg "single" = some (.ref (ad 28))
  F_law_cell_at : ∃ fd, Fun K "_law_cell_at" "_law_cell_at" s_law_cell_at (ad 29) fd
  g_law_cell_at : mg "_law_cell_at" = some (.ref (ad 29))
  F_law_pen : ∃ fd, Fun K "_law_pen" "_law_pen" s_law_pen (ad 30) fd
  g_law_pen : mg "_law_pen" = some (.ref (ad 30))
  F_law_draw : ∃ fd, Fun K "_law_draw" "_law_draw" s_law_draw (ad 31) fd
  g_law_draw : mg "_law_draw" = some (.ref (ad 31))
  F_law_mixed : ∃ fd, Fun K "_law_mixed" "_law_mixed" s_law_mixed (ad 32) fd
  g_law_mixed : mg "_law_mixed" = some (.ref (ad 32))
  F_law_all : ∃ fd, Fun K "_law_all" "_law_all" s_law_all (ad 33) fd
  g_law_all : mg "_law_all" = some (.ref (ad 33))
  F_law_near : ∃ fd, Fun K "_law_near" "_law_near" s_law_near (ad 34) fd
  g_law_near : mg "_law_near" = some (.ref (ad 34))
  F_law_apart : ∃ fd, Fun K "_law_apart" "_law_apart" s_law_apart (ad 35) fd
  g_law_apart : mg "_law_apart" = some (.ref (ad 35))
  F_law_rings : ∃ fd, Fun K "_law_rings" "_law_rings" s_law_rings (ad 36) fd
  g_law_rings : mg "_law_rings" = some (.ref (ad 36))
  F_law_due : ∃ fd, Fun K "_law_due" "_law_due" s_law_due (ad 37) fd
  g_law_due : mg "_law_due" = some (.ref (ad 37))
  F_law : ∃ fd, Fun K "law" "law" s_law (ad 38) fd
  g_law : mg "law" = some (.ref (ad 38))
  n_all : mg "all" = none
  n_bool : mg "bool" = none
  n_enumerate : mg "enumerate" = none
  n_int : mg "int" = none
  n_isinstance : mg "isinstance" = none
  n_len : mg "len" = none
  n_list : mg "list" = none
  n_max : mg "max" = none
  n_min : mg "min" = none
  n_range : mg "range" = none
  n_set : mg "set" = none
  n_sorted : mg "sorted" = none
  n_sum : mg "sum" = none
  n_tuple : mg "tuple" = none
  k_MOST_BITS_codes : ∃ t, mg "MOST_BITS_codes" = some (.int 5 t)
  k_MOST_BITS_making : ∃ t, mg "MOST_BITS_making" = some (.int 4 t)
  k_MOST_VALUES : ∃ t, mg "MOST_VALUES" = some (.int 16 t)
  k_MOST_WORDS : ∃ t, mg "MOST_WORDS" = some (.int 16 t)
  c_Code : ClsF T K 0
  nm_Code : T.nms 0 = (["_words", "_numbers"] : List Str)
  p_Code_words : ∃ p, PropOf K (T.cls 0) "words" p (ad 4)
  m_Code : Mk K (T.cls 0) (ad 3) ∧ mg "Code" = some (.ref (T.cls 0))
  fns : ∀ i, T.fns i = ad i
section
variable {P : Program} {w : World} {K : PySem.W.Frag} {mg : Str → Option Value} {base : Heap} {T : Tb} {ad : Nat → Addr}
structure Runs (P : Program) (w : World) (K : PySem.W.Frag) (mg : Str → Option Value) (base : Heap) (T : Tb) (ad : Nat → Addr) (n : Nat) : Prop where
  r_is_whole : FnR P w K mg base (L2.CX P w) (2 * n) (ad 0) (spF T K (FT n 0))
  r_is_between : FnR P w K mg base (L2.CX P w) (2 * n) (ad 1) (spF T K (FT n 1))
  r_check_number : FnR P w K mg base (L2.CX P w) (2 * n) (ad 2) (spF T K (FT n 2))
  r_Code_init : FnR P w K mg base (L2.CX P w) (2 * n) (ad 3) (spF T K (FT n 3))
  r_Code_words : FnR P w K mg base (L2.CX P w) (2 * n) (ad 4) (spF T K (FT n 4))
  r_is_word : FnR P w K mg base (L2.CX P w) (2 * n) (ad 16) (spF T K (FT n 16))
  r_are_words : FnR P w K mg base (L2.CX P w) (2 * n) (ad 17) (spF T K (FT n 17))
  r_stepped : FnR P w K mg base (L2.CX P w) (2 * n) (ad 21) (spF T K (FT n 21))
  r_fresh_places : FnR P w K mg base (L2.CX P w) (2 * n) (ad 22) (spF T K (FT n 22))
  r_next_words : FnR P w K mg base (L2.CX P w) (2 * n) (ad 23) (spF T K (FT n 23))
  r_grown : FnR P w K mg base (L2.CX P w) (2 * n) (ad 24) (spF T K (FT n 24))
  r_smallest : FnR P w K mg base (L2.CX P w) (2 * n) (ad 25) (spF T K (FT n 25))
  r_anything : FnR P w K mg base (L2.CX P w) (2 * n) (ad 26) (spF T K (FT n 26))
  r_check_sizes : FnR P w K mg base (L2.CX P w) (2 * n) (ad 27) (spF T K (FT n 27))
  r_single : FnR P w K mg base (L2.CX P w) (2 * n) (ad 28) (spF T K (FT n 28))
  r_law_cell_at : FnR P w K mg base (L2.CX P w) (2 * n) (ad 29) (spF T K (FT n 29))
  r_law_pen : FnR P w K mg base (L2.CX P w) (2 * n) (ad 30) (spF T K (FT n 30))
  r_law_draw : FnR P w K mg base (L2.CX P w) (2 * n) (ad 31) (spF T K (FT n 31))
  r_law_mixed : FnR P w K mg base (L2.CX P w) (2 * n) (ad 32) (spF T K (FT n 32))
  r_law_all : FnR P w K mg base (L2.CX P w) (2 * n) (ad 33) (spF T K (FT n 33))
  r_law_near : FnR P w K mg base (L2.CX P w) (2 * n) (ad 34) (spF T K (FT n 34))
  r_law_apart : FnR P w K mg base (L2.CX P w) (2 * n) (ad 35) (spF T K (FT n 35))
  r_law_rings : FnR P w K mg base (L2.CX P w) (2 * n) (ad 36) (spF T K (FT n 36))
  r_law_due : FnR P w K mg base (L2.CX P w) (2 * n) (ad 37) (spF T K (FT n 37))
  r_law : FnR P w K mg base (L2.CX P w) (2 * n) (ad 38) (spF T K (FT n 38))
theorem facts (B : Base K mg T ad) {n : Nat} (R : Runs P w K mg base T ad n) : Facts P w K mg base T (FT n) (2 * n + 1) where
  f_law_all := ⟨ad 33, R.r_law_all.mono (by omega), B.F_law_all.elim fun _ F => F.kp, B.g_law_all⟩
  f_law_apart := ⟨ad 35, R.r_law_apart.mono (by omega), B.F_law_apart.elim fun _ F => F.kp, B.g_law_apart⟩
  f_law_cell_at := ⟨ad 29, R.r_law_cell_at.mono (by omega), B.F_law_cell_at.elim fun _ F => F.kp, B.g_law_cell_at⟩
  f_law_draw := ⟨ad 31, R.r_law_draw.mono (by omega), B.F_law_draw.elim fun _ F => F.kp, B.g_law_draw⟩
  f_law_due := ⟨ad 37, R.r_law_due.mono (by omega), B.F_law_due.elim fun _ F => F.kp, B.g_law_due⟩
  f_law_mixed := ⟨ad 32, R.r_law_mixed.mono (by omega), B.F_law_mixed.elim fun _ F => F.kp, B.g_law_mixed⟩
  f_law_near := ⟨ad 34, R.r_law_near.mono (by omega), B.F_law_near.elim fun _ F => F.kp, B.g_law_near⟩
  f_law_pen := ⟨ad 30, R.r_law_pen.mono (by omega), B.F_law_pen.elim fun _ F => F.kp, B.g_law_pen⟩
  f_law_rings := ⟨ad 36, R.r_law_rings.mono (by omega), B.F_law_rings.elim fun _ F => F.kp, B.g_law_rings⟩
  f_are_words := ⟨ad 17, R.r_are_words.mono (by omega), B.F_are_words.elim fun _ F => F.kp, B.g_are_words⟩
  f_check_number := ⟨ad 2, R.r_check_number.mono (by omega), B.F_check_number.elim fun _ F => F.kp, B.g_check_number⟩
  f_check_sizes := ⟨ad 27, R.r_check_sizes.mono (by omega), B.F_check_sizes.elim fun _ F => F.kp, B.g_check_sizes⟩
  f_fresh_places := ⟨ad 22, R.r_fresh_places.mono (by omega), B.F_fresh_places.elim fun _ F => F.kp, B.g_fresh_places⟩
  f_grown := ⟨ad 24, R.r_grown.mono (by omega), B.F_grown.elim fun _ F => F.kp, B.g_grown⟩
  f_is_between := ⟨ad 1, R.r_is_between.mono (by omega), B.F_is_between.elim fun _ F => F.kp, B.g_is_between⟩
  f_is_whole := ⟨ad 0, R.r_is_whole.mono (by omega), B.F_is_whole.elim fun _ F => F.kp, B.g_is_whole⟩
  f_is_word := ⟨ad 16, R.r_is_word.mono (by omega), B.F_is_word.elim fun _ F => F.kp, B.g_is_word⟩
  f_next_words := ⟨ad 23, R.r_next_words.mono (by omega), B.F_next_words.elim fun _ F => F.kp, B.g_next_words⟩
  f_single := ⟨ad 28, R.r_single.mono (by omega), B.F_single.elim fun _ F => F.kp, B.g_single⟩
  f_smallest := ⟨ad 25, R.r_smallest.mono (by omega), B.F_smallest.elim fun _ F => F.kp, B.g_smallest⟩
  f_stepped := ⟨ad 21, R.r_stepped.mono (by omega), B.F_stepped.elim fun _ F => F.kp, B.g_stepped⟩
  n_all := B.n_all
  n_bool := B.n_bool
  n_enumerate := B.n_enumerate
  n_int := B.n_int
  n_isinstance := B.n_isinstance
  n_len := B.n_len
  n_list := B.n_list
  n_max := B.n_max
  n_min := B.n_min
  n_range := B.n_range
  n_set := B.n_set
  n_sorted := B.n_sorted
  n_sum := B.n_sum
  n_tuple := B.n_tuple
  k_MOST_BITS_codes := B.k_MOST_BITS_codes
  k_MOST_BITS_making := B.k_MOST_BITS_making
  k_MOST_VALUES := B.k_MOST_VALUES
  k_MOST_WORDS := B.k_MOST_WORDS
  c_Code := B.c_Code
  nm_Code := B.nm_Code
  p_Code_words := B.p_Code_words.elim fun p h => ⟨2 * n, p, ad 4, Nat.le_refl _, h, R.r_Code_words⟩
  m_Code := ⟨2 * n, ad 3, Nat.le_refl _, B.m_Code.1, R.r_Code_init, B.m_Code.2⟩
  vals := fun i hi => by
    simp only [List.mem_cons, List.not_mem_nil, or_false] at hi
    subst hi
    · rw [B.fns]; exact ⟨R.r_anything.mono (by omega), B.F_anything.elim fun _ F => F.kp⟩
  v_anything := by rw [B.fns]; exact B.g_anything
theorem runs (B : Base K mg T ad) : ∀ n, Runs P w K mg base T ad n
  | 0 => ⟨fn_none, fn_none, fn_none, fn_none, fn_none, fn_none, fn_none, fn_none, fn_none, fn_none, fn_none, fn_none, fn_none, fn_none, fn_none, fn_none, fn_none, fn_none, fn_none, fn_none, fn_none, fn_none, fn_none, fn_none, fn_none⟩
  | n + 1 => by
    have Z := facts (P := P) (w := w) (base := base) B (runs B n)
    exact ⟨B.F_is_whole.elim fun _ F => fn_frame (fn_is_whole Z F),
      B.F_is_between.elim fun _ F => fn_frame (fn_is_between Z F),
      B.F_check_number.elim fun _ F => fn_frame (fn_check_number Z F),
      B.F_Code_init.elim fun _ F => fn_frame (fn_Code_init Z F),
      B.F_Code_words.elim fun _ F => fn_frame (fn_Code_words Z F),
      B.F_is_word.elim fun _ F => fn_frame (fn_is_word Z F),
      B.F_are_words.elim fun _ F => fn_frame (fn_are_words Z F),
      B.F_stepped.elim fun _ F => fn_frame (fn_stepped Z F),
      B.F_fresh_places.elim fun _ F => fn_frame (fn_fresh_places Z F),
      B.F_next_words.elim fun _ F => fn_frame (fn_next_words Z F),
      B.F_grown.elim fun _ F => fn_frame (fn_grown Z F),
      B.F_smallest.elim fun _ F => fn_frame (fn_smallest Z F),
      B.F_anything.elim fun _ F => fn_frame (fn_anything Z F),
      B.F_check_sizes.elim fun _ F => fn_frame (fn_check_sizes Z F),
      B.F_single.elim fun _ F => fn_frame (fn_single Z F),
      B.F_law_cell_at.elim fun _ F => fn_frame (fn_law_cell_at Z F),
      B.F_law_pen.elim fun _ F => fn_law_pen Z F,
      B.F_law_draw.elim fun _ F => fn_frame (fn_law_draw Z F),
      B.F_law_mixed.elim fun _ F => fn_frame (fn_law_mixed Z F),
      B.F_law_all.elim fun _ F => fn_frame (fn_law_all Z F),
      B.F_law_near.elim fun _ F => fn_frame (fn_law_near Z F),
      B.F_law_apart.elim fun _ F => fn_frame (fn_law_apart Z F),
      B.F_law_rings.elim fun _ F => fn_frame (fn_law_rings Z F),
      B.F_law_due.elim fun _ F => fn_frame (fn_law_due Z F),
      B.F_law.elim fun _ F => fn_frame (fn_law Z F)⟩
theorem law_ok {fd : FuncData} (B : Base K mg T ad) (n : Nat) (Fu : Fun K "law" "law" s_law (ad 38) fd) : FnOk P w K mg base (L2.CX P w) (2 * n + 2) (ad 38) fd ["_law_script"] (fun vs H Q E => vs.length = 1 ∧ spF T K (fnRun 1 8 false (b_law (FT n))) vs H Q E) :=
  have Z := facts (P := P) (w := w) (base := base) B (runs B n)
  fn_simOk (k := 2 * n + 1) (ps := ["_law_script"]) (N := ["_law_script", "_law_k", "_law_pen_here", "_law_wide", "_law_many", "_law_due_here", "_law_turn", "_law_told"]) Fu sc_law fun cdv A outer s H E hr hp tk =>
    (sims_cons (sim_for hp rfl (sim_iR1 Z.n_range (sim_cons (sim_max2 rfl Z.n_max (sim_cons sim_int (sim_cons (sim_min2 rfl Z.n_min (sim_cons (sim_len Z.n_len (sim_cons (sim_var 0) sim_nil)) (sim_cons sim_int sim_nil))) sim_nil))) sim_nil)) (sim_gN 1 sc_law.nd) (sims_cons (sim_set 2 sc_law.nd (sim_call ⟨Z.f_law_pen⟩ tk hr rfl (sim_cons (sim_call ⟨Z.f_law_cell_at⟩ tk hr rfl (sim_cons (sim_var 0) (sim_cons (sim_var 1) sim_nil))) sim_nil)))
    (sims_cons (sim_for hp rfl (sim_iR2 Z.n_range (sim_cons sim_int (sim_cons sim_int sim_nil))) (sim_gN 3 sc_law.nd) (sims_cons (sim_for hp rfl (sim_iS (sim_add (sim_cut (sim_call ⟨Z.f_law_mixed⟩ tk hr rfl (sim_cons (sim_var 2) (sim_cons (sim_listR2 rfl Z.n_list Z.n_range sim_int sim_int) sim_nil))) sim_oNone (sim_oSome sim_int)) (sim_lst (sim_cons (sim_len Z.n_len (sim_cons (sim_call ⟨Z.f_law_all⟩ tk hr rfl (sim_cons (sim_var 3) sim_nil)) sim_nil)) (sim_cons (sim_add (sim_len Z.n_len (sim_cons (sim_call ⟨Z.f_law_all⟩ tk hr rfl (sim_cons (sim_var 3) sim_nil)) sim_nil)) sim_int) sim_nil))))) (sim_gN 4 sc_law.nd) (sims_cons (sim_set 5 sc_law.nd (sim_if (simT_lt (sim_var 4) sim_int) (sim_call ⟨Z.f_law_due⟩ tk hr rfl (sim_cons (sim_var 4) (sim_cons (sim_var 3) sim_nil))) sim_non))
    (sims_cons (sim_for hp rfl (sim_iR1 Z.n_range (sim_cons (sim_mulI sim_int (sim_int1 Z.n_int (sim_cons (sim_lt (sim_var 4) sim_int) sim_nil))) sim_nil)) (sim_gN 6 sc_law.nd) (sims_cons (sim_set 7 sc_law.nd (sim_call ⟨Z.f_single⟩ tk hr rfl (sim_cons (sim_var 4) (sim_cons (sim_var 3) sim_nil))))
    (sims_cons (sim_ifS (simT_W (simW_or (simT_ne hr (sim_isN (sim_var 7)) (sim_isN (sim_var 5))) (simW_or1 (simT_W (simW_and (simT_notN (sim_var 7)) (simW_and1 (simT_ne hr (sim_prop 0 ⟨Z.p_Code_words⟩ Z.c_Code hr (sim_var 7)) (sim_var 5)))))))) (sims_cons (sim_ret sim_bl)
    sims_nil) sims_nil)
    sims_nil)))
    sims_nil)))
    sims_nil))
    sims_nil)))
    (sims_cons (sim_ret sim_bl)
    sims_nil))
end
theorem all_mk {l : PySem.W.OpenLaw} {w : World} {K : PySem.W.Frag} {h : Heap} {mg : Str → Option Value} {fa : Addr} (X : K.In h) (G : h.Ns mainGlobals mg) (hfa : mg "law" = some (.ref fa))
    {C0 : Addr} {f0 : Addr} {od0 an0 : Option Addr} {sl0 : Array (Option Value)} {oc0 kV0 dc0 pm0 cd0 ct0 : Value} {f1 : Addr} {od1 an1 : Option Addr} {sl1 : Array (Option Value)} {oc1 kV1 dc1 pm1 cd1 ct1 : Value} {f2 : Addr} {od2 an2 : Option Addr} {sl2 : Array (Option Value)} {oc2 kV2 dc2 pm2 cd2 ct2 : Value} {f3 : Addr} {od3 an3 : Option Addr} {sl3 : Array (Option Value)} {oc3 kV3 dc3 pm3 cd3 ct3 : Value} {f4 : Addr} {od4 an4 : Option Addr} {sl4 : Array (Option Value)} {oc4 kV4 dc4 pm4 cd4 ct4 : Value} {p4 : Addr} {rest4 : List Value} {f16 : Addr} {od16 an16 : Option Addr} {sl16 : Array (Option Value)} {oc16 kV16 dc16 pm16 cd16 ct16 : Value} {f17 : Addr} {od17 an17 : Option Addr} {sl17 : Array (Option Value)} {oc17 kV17 dc17 pm17 cd17 ct17 : Value} {f21 : Addr} {od21 an21 : Option Addr} {sl21 : Array (Option Value)} {oc21 kV21 dc21 pm21 cd21 ct21 : Value} {f22 : Addr} {od22 an22 : Option Addr} {sl22 : Array (Option Value)} {oc22 kV22 dc22 pm22 cd22 ct22 : Value} {f23 : Addr} {od23 an23 : Option Addr} {sl23 : Array (Option Value)} {oc23 kV23 dc23 pm23 cd23 ct23 : Value} {f24 : Addr} {od24 an24 : Option Addr} {sl24 : Array (Option Value)} {oc24 kV24 dc24 pm24 cd24 ct24 : Value} {f25 : Addr} {od25 an25 : Option Addr} {sl25 : Array (Option Value)} {oc25 kV25 dc25 pm25 cd25 ct25 : Value} {f26 : Addr} {od26 an26 : Option Addr} {sl26 : Array (Option Value)} {oc26 kV26 dc26 pm26 cd26 ct26 : Value} {f27 : Addr} {od27 an27 : Option Addr} {sl27 : Array (Option Value)} {oc27 kV27 dc27 pm27 cd27 ct27 : Value} {f28 : Addr} {od28 an28 : Option Addr} {sl28 : Array (Option Value)} {oc28 kV28 dc28 pm28 cd28 ct28 : Value} {f29 : Addr} {od29 an29 : Option Addr} {sl29 : Array (Option Value)} {oc29 kV29 dc29 pm29 cd29 ct29 : Value} {f30 : Addr} {od30 an30 : Option Addr} {sl30 : Array (Option Value)} {oc30 kV30 dc30 pm30 cd30 ct30 : Value} {f31 : Addr} {od31 an31 : Option Addr} {sl31 : Array (Option Value)} {oc31 kV31 dc31 pm31 cd31 ct31 : Value} {f32 : Addr} {od32 an32 : Option Addr} {sl32 : Array (Option Value)} {oc32 kV32 dc32 pm32 cd32 ct32 : Value} {f33 : Addr} {od33 an33 : Option Addr} {sl33 : Array (Option Value)} {oc33 kV33 dc33 pm33 cd33 ct33 : Value} {f34 : Addr} {od34 an34 : Option Addr} {sl34 : Array (Option Value)} {oc34 kV34 dc34 pm34 cd34 ct34 : Value} {f35 : Addr} {od35 an35 : Option Addr} {sl35 : Array (Option Value)} {oc35 kV35 dc35 pm35 cd35 ct35 : Value} {f36 : Addr} {od36 an36 : Option Addr} {sl36 : Array (Option Value)} {oc36 kV36 dc36 pm36 cd36 ct36 : Value} {f37 : Addr} {od37 an37 : Option Addr} {sl37 : Array (Option Value)} {oc37 kV37 dc37 pm37 cd37 ct37 : Value} {f38 : Addr} {od38 an38 : Option Addr} {sl38 : Array (Option Value)} {oc38 kV38 dc38 pm38 cd38 ct38 : Value} {t_MOST_BITS_codes : Tok} {t_MOST_BITS_making : Tok} {t_MOST_VALUES : Tok} {t_MOST_WORDS : Tok}
    (aC0 : PySem.W.nsIn K mainGlobals "Code" = some (some (.ref C0)))
    (pg0 : PySem.W.plainGet K C0 Str.empty = true)
    (hd0 : PySem.W.hasDictIn K C0 = true)
    (po0 : PySem.W.plainOver K C0 = true)
    (sa0 : PySem.W.findIn K (.ref C0) "__setattr__" = some (some (.builtin "object.__setattr__")))
    (mk0 : PySem.W.makesIn K C0 = true)
    (kc0 : PySem.W.keepIn K (.ref C0) = true)
    (no0_0 : PySem.W.findIn K (.ref C0) "_words" = some none)
    (no0_1 : PySem.W.findIn K (.ref C0) "_numbers" = some none)
    (a0 : PySem.W.nsIn K mainGlobals "is_whole" = some (some (.ref f0)))
    (l0 : K.lookup f0 = some ⟨oc0, od0, .func (PySem.W.fnOf "is_whole" "is_whole" (defArgs s_is_whole) (defBody s_is_whole) (defScope s_is_whole) .none kV0 dc0 pm0 an0 cd0 ct0), sl0⟩)
    (c0 : PySem.W.codeIn K cd0 "is_whole" = true)
    (k0 : PySem.W.keepIn K (.ref f0) = true)
    (a1 : PySem.W.nsIn K mainGlobals "is_between" = some (some (.ref f1)))
    (l1 : K.lookup f1 = some ⟨oc1, od1, .func (PySem.W.fnOf "is_between" "is_between" (defArgs s_is_between) (defBody s_is_between) (defScope s_is_between) .none kV1 dc1 pm1 an1 cd1 ct1), sl1⟩)
    (c1 : PySem.W.codeIn K cd1 "is_between" = true)
    (k1 : PySem.W.keepIn K (.ref f1) = true)
    (a2 : PySem.W.nsIn K mainGlobals "check_number" = some (some (.ref f2)))
    (l2 : K.lookup f2 = some ⟨oc2, od2, .func (PySem.W.fnOf "check_number" "check_number" (defArgs s_check_number) (defBody s_check_number) (defScope s_check_number) .none kV2 dc2 pm2 an2 cd2 ct2), sl2⟩)
    (c2 : PySem.W.codeIn K cd2 "check_number" = true)
    (k2 : PySem.W.keepIn K (.ref f2) = true)
    (a3 : PySem.W.findIn K (.ref C0) "__init__" = some (some (.ref f3)))
    (fn3 : PySem.W.isFn K (.ref f3) = true)
    (l3 : K.lookup f3 = some ⟨oc3, od3, .func (PySem.W.fnOf "__init__" "Code.__init__" (defArgs s_Code_init) (defBody s_Code_init) (defScope s_Code_init) .none kV3 dc3 pm3 an3 cd3 ct3), sl3⟩)
    (c3 : PySem.W.codeIn K cd3 "Code.__init__" = true)
    (k3 : PySem.W.keepIn K (.ref f3) = true)
    (a4 : PySem.W.findIn K (.ref C0) "words" = some (some (.ref p4)))
    (ge4 : PySem.W.specialIn K (.ref p4) "__get__" = some (some (.builtin "property.__get__")))
    (ta4 : PySem.W.takesIn K (.ref p4) = some true)
    (re4 : PySem.W.recIn K p4 "property" = some (.ref f4 :: rest4))
    (l4 : K.lookup f4 = some ⟨oc4, od4, .func (PySem.W.fnOf "words" "Code.words" (defArgs s_Code_words) (defBody s_Code_words) (defScope s_Code_words) .none kV4 dc4 pm4 an4 cd4 ct4), sl4⟩)
    (c4 : PySem.W.codeIn K cd4 "Code.words" = true)
    (k4 : PySem.W.keepIn K (.ref f4) = true)
    (a16 : PySem.W.nsIn K mainGlobals "is_word" = some (some (.ref f16)))
    (l16 : K.lookup f16 = some ⟨oc16, od16, .func (PySem.W.fnOf "is_word" "is_word" (defArgs s_is_word) (defBody s_is_word) (defScope s_is_word) .none kV16 dc16 pm16 an16 cd16 ct16), sl16⟩)
    (c16 : PySem.W.codeIn K cd16 "is_word" = true)
    (k16 : PySem.W.keepIn K (.ref f16) = true)
    (a17 : PySem.W.nsIn K mainGlobals "are_words" = some (some (.ref f17)))
    (l17 : K.lookup f17 = some ⟨oc17, od17, .func (PySem.W.fnOf "are_words" "are_words" (defArgs s_are_words) (defBody s_are_words) (defScope s_are_words) .none kV17 dc17 pm17 an17 cd17 ct17), sl17⟩)
    (c17 : PySem.W.codeIn K cd17 "are_words" = true)
    (k17 : PySem.W.keepIn K (.ref f17) = true)
    (a21 : PySem.W.nsIn K mainGlobals "stepped" = some (some (.ref f21)))
    (l21 : K.lookup f21 = some ⟨oc21, od21, .func (PySem.W.fnOf "stepped" "stepped" (defArgs s_stepped) (defBody s_stepped) (defScope s_stepped) .none kV21 dc21 pm21 an21 cd21 ct21), sl21⟩)
    (c21 : PySem.W.codeIn K cd21 "stepped" = true)
    (k21 : PySem.W.keepIn K (.ref f21) = true)
    (a22 : PySem.W.nsIn K mainGlobals "fresh_places" = some (some (.ref f22)))
    (l22 : K.lookup f22 = some ⟨oc22, od22, .func (PySem.W.fnOf "fresh_places" "fresh_places" (defArgs s_fresh_places) (defBody s_fresh_places) (defScope s_fresh_places) .none kV22 dc22 pm22 an22 cd22 ct22), sl22⟩)
    (c22 : PySem.W.codeIn K cd22 "fresh_places" = true)
    (k22 : PySem.W.keepIn K (.ref f22) = true)
    (a23 : PySem.W.nsIn K mainGlobals "next_words" = some (some (.ref f23)))
    (l23 : K.lookup f23 = some ⟨oc23, od23, .func (PySem.W.fnOf "next_words" "next_words" (defArgs s_next_words) (defBody s_next_words) (defScope s_next_words) .none kV23 dc23 pm23 an23 cd23 ct23), sl23⟩)
    (c23 : PySem.W.codeIn K cd23 "next_words" = true)
    (k23 : PySem.W.keepIn K (.ref f23) = true)
    (a24 : PySem.W.nsIn K mainGlobals "grown" = some (some (.ref f24)))
    (l24 : K.lookup f24 = some ⟨oc24, od24, .func (PySem.W.fnOf "grown" "grown" (defArgs s_grown) (defBody s_grown) (defScope s_grown) .none kV24 dc24 pm24 an24 cd24 ct24), sl24⟩)
    (c24 : PySem.W.codeIn K cd24 "grown" = true)
    (k24 : PySem.W.keepIn K (.ref f24) = true)
    (a25 : PySem.W.nsIn K mainGlobals "smallest" = some (some (.ref f25)))
    (l25 : K.lookup f25 = some ⟨oc25, od25, .func (PySem.W.fnOf "smallest" "smallest" (defArgs s_smallest) (defBody s_smallest) (defScope s_smallest) .none kV25 dc25 pm25 an25 cd25 ct25), sl25⟩)
    (c25 : PySem.W.codeIn K cd25 "smallest" = true)
    (k25 : PySem.W.keepIn K (.ref f25) = true)
    (a26 : PySem.W.nsIn K mainGlobals "anything" = some (some (.ref f26)))
    (l26 : K.lookup f26 = some ⟨oc26, od26, .func (PySem.W.fnOf "anything" "anything" (defArgs s_anything) (defBody s_anything) (defScope s_anything) .none kV26 dc26 pm26 an26 cd26 ct26), sl26⟩)
    (c26 : PySem.W.codeIn K cd26 "anything" = true)
    (k26 : PySem.W.keepIn K (.ref f26) = true)
    (a27 : PySem.W.nsIn K mainGlobals "check_sizes" = some (some (.ref f27)))
    (l27 : K.lookup f27 = some ⟨oc27, od27, .func (PySem.W.fnOf "check_sizes" "check_sizes" (defArgs s_check_sizes) (defBody s_check_sizes) (defScope s_check_sizes) .none kV27 dc27 pm27 an27 cd27 ct27), sl27⟩)
    (c27 : PySem.W.codeIn K cd27 "check_sizes" = true)
    (k27 : PySem.W.keepIn K (.ref f27) = true)
    (a28 : PySem.W.nsIn K mainGlobals "single" = some (some (.ref f28)))
    (l28 : K.lookup f28 = some ⟨oc28, od28, .func (PySem.W.fnOf "single" "single" (defArgs s_single) (defBody s_single) (defScope s_single) .none kV28 dc28 pm28 an28 cd28 ct28), sl28⟩)
    (c28 : PySem.W.codeIn K cd28 "single" = true)
    (k28 : PySem.W.keepIn K (.ref f28) = true)
    (a29 : PySem.W.nsIn K mainGlobals "_law_cell_at" = some (some (.ref f29)))
    (l29 : K.lookup f29 = some ⟨oc29, od29, .func (PySem.W.fnOf "_law_cell_at" "_law_cell_at" (defArgs s_law_cell_at) (defBody s_law_cell_at) (defScope s_law_cell_at) .none kV29 dc29 pm29 an29 cd29 ct29), sl29⟩)
    (c29 : PySem.W.codeIn K cd29 "_law_cell_at" = true)
    (k29 : PySem.W.keepIn K (.ref f29) = true)
    (a30 : PySem.W.nsIn K mainGlobals "_law_pen" = some (some (.ref f30)))
    (l30 : K.lookup f30 = some ⟨oc30, od30, .func (PySem.W.fnOf "_law_pen" "_law_pen" (defArgs s_law_pen) (defBody s_law_pen) (defScope s_law_pen) .none kV30 dc30 pm30 an30 cd30 ct30), sl30⟩)
    (c30 : PySem.W.codeIn K cd30 "_law_pen" = true)
    (k30 : PySem.W.keepIn K (.ref f30) = true)
    (a31 : PySem.W.nsIn K mainGlobals "_law_draw" = some (some (.ref f31)))
    (l31 : K.lookup f31 = some ⟨oc31, od31, .func (PySem.W.fnOf "_law_draw" "_law_draw" (defArgs s_law_draw) (defBody s_law_draw) (defScope s_law_draw) .none kV31 dc31 pm31 an31 cd31 ct31), sl31⟩)
    (c31 : PySem.W.codeIn K cd31 "_law_draw" = true)
    (k31 : PySem.W.keepIn K (.ref f31) = true)
    (a32 : PySem.W.nsIn K mainGlobals "_law_mixed" = some (some (.ref f32)))
    (l32 : K.lookup f32 = some ⟨oc32, od32, .func (PySem.W.fnOf "_law_mixed" "_law_mixed" (defArgs s_law_mixed) (defBody s_law_mixed) (defScope s_law_mixed) .none kV32 dc32 pm32 an32 cd32 ct32), sl32⟩)
    (c32 : PySem.W.codeIn K cd32 "_law_mixed" = true)
    (k32 : PySem.W.keepIn K (.ref f32) = true)
    (a33 : PySem.W.nsIn K mainGlobals "_law_all" = some (some (.ref f33)))
    (l33 : K.lookup f33 = some ⟨oc33, od33, .func (PySem.W.fnOf "_law_all" "_law_all" (defArgs s_law_all) (defBody s_law_all) (defScope s_law_all) .none kV33 dc33 pm33 an33 cd33 ct33), sl33⟩)
    (c33 : PySem.W.codeIn K cd33 "_law_all" = true)
    (k33 : PySem.W.keepIn K (.ref f33) = true)
    (a34 : PySem.W.nsIn K mainGlobals "_law_near" = some (some (.ref f34)))
    (l34 : K.lookup f34 = some ⟨oc34, od34, .func (PySem.W.fnOf "_law_near" "_law_near" (defArgs s_law_near) (defBody s_law_near) (defScope s_law_near) .none kV34 dc34 pm34 an34 cd34 ct34), sl34⟩)
    (c34 : PySem.W.codeIn K cd34 "_law_near" = true)
    (k34 : PySem.W.keepIn K (.ref f34) = true)
    (a35 : PySem.W.nsIn K mainGlobals "_law_apart" = some (some (.ref f35)))
    (l35 : K.lookup f35 = some ⟨oc35, od35, .func (PySem.W.fnOf "_law_apart" "_law_apart" (defArgs s_law_apart) (defBody s_law_apart) (defScope s_law_apart) .none kV35 dc35 pm35 an35 cd35 ct35), sl35⟩)
    (c35 : PySem.W.codeIn K cd35 "_law_apart" = true)
    (k35 : PySem.W.keepIn K (.ref f35) = true)
    (a36 : PySem.W.nsIn K mainGlobals "_law_rings" = some (some (.ref f36)))
    (l36 : K.lookup f36 = some ⟨oc36, od36, .func (PySem.W.fnOf "_law_rings" "_law_rings" (defArgs s_law_rings) (defBody s_law_rings) (defScope s_law_rings) .none kV36 dc36 pm36 an36 cd36 ct36), sl36⟩)
    (c36 : PySem.W.codeIn K cd36 "_law_rings" = true)
    (k36 : PySem.W.keepIn K (.ref f36) = true)
    (a37 : PySem.W.nsIn K mainGlobals "_law_due" = some (some (.ref f37)))
    (l37 : K.lookup f37 = some ⟨oc37, od37, .func (PySem.W.fnOf "_law_due" "_law_due" (defArgs s_law_due) (defBody s_law_due) (defScope s_law_due) .none kV37 dc37 pm37 an37 cd37 ct37), sl37⟩)
    (c37 : PySem.W.codeIn K cd37 "_law_due" = true)
    (k37 : PySem.W.keepIn K (.ref f37) = true)
    (a38 : PySem.W.nsIn K mainGlobals "law" = some (some (.ref f38)))
    (l38 : K.lookup f38 = some ⟨oc38, od38, .func (PySem.W.fnOf "law" "law" (defArgs s_law) (defBody s_law) (defScope s_law) .none kV38 dc38 pm38 an38 cd38 ct38), sl38⟩)
    (c38 : PySem.W.codeIn K cd38 "law" = true)
    (k38 : PySem.W.keepIn K (.ref f38) = true)
    (kk_MOST_BITS_codes : PySem.W.nsIn K mainGlobals "MOST_BITS_codes" = some (some (.int 5 t_MOST_BITS_codes)))
    (kk_MOST_BITS_making : PySem.W.nsIn K mainGlobals "MOST_BITS_making" = some (some (.int 4 t_MOST_BITS_making)))
    (kk_MOST_VALUES : PySem.W.nsIn K mainGlobals "MOST_VALUES" = some (some (.int 16 t_MOST_VALUES)))
    (kk_MOST_WORDS : PySem.W.nsIn K mainGlobals "MOST_WORDS" = some (some (.int 16 t_MOST_WORDS)))
    (z_all : PySem.W.nsIn K mainGlobals "all" = some none)
    (z_bool : PySem.W.nsIn K mainGlobals "bool" = some none)
    (z_enumerate : PySem.W.nsIn K mainGlobals "enumerate" = some none)
    (z_int : PySem.W.nsIn K mainGlobals "int" = some none)
    (z_isinstance : PySem.W.nsIn K mainGlobals "isinstance" = some none)
    (z_len : PySem.W.nsIn K mainGlobals "len" = some none)
    (z_list : PySem.W.nsIn K mainGlobals "list" = some none)
    (z_max : PySem.W.nsIn K mainGlobals "max" = some none)
    (z_min : PySem.W.nsIn K mainGlobals "min" = some none)
    (z_range : PySem.W.nsIn K mainGlobals "range" = some none)
    (z_set : PySem.W.nsIn K mainGlobals "set" = some none)
    (z_sorted : PySem.W.nsIn K mainGlobals "sorted" = some none)
    (z_sum : PySem.W.nsIn K mainGlobals "sum" = some none)
    (z_tuple : PySem.W.nsIn K mainGlobals "tuple" = some none) (n : Nat) :
    ∃ (fd : FuncData) (T : Tb), (∀ (s : Shared) (v : Value), BindsTo s fd ⟨[v], []⟩ [("_law_script", v)]) ∧ ∀ base : Heap, K.In base → base.Ns mainGlobals mg → FnOk l.prog w K mg base (L2.CX l.prog w) (2 * n + 2) fa fd ["_law_script"] (fun vs H Q E => vs.length = 1 ∧ spF T K (fnRun 1 8 false (b_law (FT n))) vs H Q E) := by
  have e := hfa.symm.trans (PySem.W.mg_of X G a38)
  cases e
  have F0 := fun_mk (st := s_is_whole) l0 c0 k0
  have F1 := fun_mk (st := s_is_between) l1 c1 k1
  have F2 := fun_mk (st := s_check_number) l2 c2 k2
  have F3 := fun_mk (st := s_Code_init) l3 c3 k3
  have F4 := fun_mk (st := s_Code_words) l4 c4 k4
  have F16 := fun_mk (st := s_is_word) l16 c16 k16
  have F17 := fun_mk (st := s_are_words) l17 c17 k17
  have F21 := fun_mk (st := s_stepped) l21 c21 k21
  have F22 := fun_mk (st := s_fresh_places) l22 c22 k22
  have F23 := fun_mk (st := s_next_words) l23 c23 k23
  have F24 := fun_mk (st := s_grown) l24 c24 k24
  have F25 := fun_mk (st := s_smallest) l25 c25 k25
  have F26 := fun_mk (st := s_anything) l26 c26 k26
  have F27 := fun_mk (st := s_check_sizes) l27 c27 k27
  have F28 := fun_mk (st := s_single) l28 c28 k28
  have F29 := fun_mk (st := s_law_cell_at) l29 c29 k29
  have F30 := fun_mk (st := s_law_pen) l30 c30 k30
  have F31 := fun_mk (st := s_law_draw) l31 c31 k31
  have F32 := fun_mk (st := s_law_mixed) l32 c32 k32
  have F33 := fun_mk (st := s_law_all) l33 c33 k33
  have F34 := fun_mk (st := s_law_near) l34 c34 k34
  have F35 := fun_mk (st := s_law_apart) l35 c35 k35
  have F36 := fun_mk (st := s_law_rings) l36 c36 k36
  have F37 := fun_mk (st := s_law_due) l37 c37 k37
  have F38 := fun_mk (st := s_law) l38 c38 k38
  let ad : Nat → Addr := fun i => if i = 0 then f0 else if i = 1 then f1 else if i = 2 then f2 else if i = 3 then f3 else if i = 4 then f4 else if i = 16 then f16 else if i = 17 then f17 else if i = 21 then f21 else if i = 22 then f22 else if i = 23 then f23 else if i = 24 then f24 else if i = 25 then f25 else if i = 26 then f26 else if i = 27 then f27 else if i = 28 then f28 else if i = 29 then f29 else if i = 30 then f30 else if i = 31 then f31 else if i = 32 then f32 else if i = 33 then f33 else if i = 34 then f34 else if i = 35 then f35 else if i = 36 then f36 else if i = 37 then f37 else if i = 38 then fa else 0
  let T : Tb := { cls := fun c => if c = 0 then C0 else 0, nms := fun c => if c = 0 then ["_words", "_numbers"] else [], exc := fun _ => 0, fns := fun i => if i = 0 then f0 else if i = 1 then f1 else if i = 2 then f2 else if i = 3 then f3 else if i = 4 then f4 else if i = 16 then f16 else if i = 17 then f17 else if i = 21 then f21 else if i = 22 then f22 else if i = 23 then f23 else if i = 24 then f24 else if i = 25 then f25 else if i = 26 then f26 else if i = 27 then f27 else if i = 28 then f28 else if i = 29 then f29 else if i = 30 then f30 else if i = 31 then f31 else if i = 32 then f32 else if i = 33 then f33 else if i = 34 then f34 else if i = 35 then f35 else if i = 36 then f36 else if i = 37 then f37 else if i = 38 then fa else 0 }
  have B : Base K mg T ad := {
    F_is_whole := ⟨_, F0⟩
    g_is_whole := PySem.W.mg_of X G a0
    F_is_between := ⟨_, F1⟩
    g_is_between := PySem.W.mg_of X G a1
    F_check_number := ⟨_, F2⟩
    g_check_number := PySem.W.mg_of X G a2
    F_Code_init := ⟨_, F3⟩
    F_Code_words := ⟨_, F4⟩
    F_is_word := ⟨_, F16⟩
    g_is_word := PySem.W.mg_of X G a16
    F_are_words := ⟨_, F17⟩
    g_are_words := PySem.W.mg_of X G a17
    F_stepped := ⟨_, F21⟩
    g_stepped := PySem.W.mg_of X G a21
    F_fresh_places := ⟨_, F22⟩
    g_fresh_places := PySem.W.mg_of X G a22
    F_next_words := ⟨_, F23⟩
    g_next_words := PySem.W.mg_of X G a23
    F_grown := ⟨_, F24⟩
    g_grown := PySem.W.mg_of X G a24
    F_smallest := ⟨_, F25⟩
    g_smallest := PySem.W.mg_of X G a25
    F_anything := ⟨_, F26⟩
    g_anything := PySem.W.mg_of X G a26
    F_check_sizes := ⟨_, F27⟩
    g_check_sizes := PySem.W.mg_of X G a27
    F_single := ⟨_, F28⟩
    g_single := PySem.W.mg_of X G a28
    F_law_cell_at := ⟨_, F29⟩
    g_law_cell_at := PySem.W.mg_of X G a29
    F_law_pen := ⟨_, F30⟩
    g_law_pen := PySem.W.mg_of X G a30
    F_law_draw := ⟨_, F31⟩
    g_law_draw := PySem.W.mg_of X G a31
    F_law_mixed := ⟨_, F32⟩
    g_law_mixed := PySem.W.mg_of X G a32
    F_law_all := ⟨_, F33⟩
    g_law_all := PySem.W.mg_of X G a33
    F_law_near := ⟨_, F34⟩
    g_law_near := PySem.W.mg_of X G a34
    F_law_apart := ⟨_, F35⟩
    g_law_apart := PySem.W.mg_of X G a35
    F_law_rings := ⟨_, F36⟩
    g_law_rings := PySem.W.mg_of X G a36
    F_law_due := ⟨_, F37⟩
    g_law_due := PySem.W.mg_of X G a37
    F_law := ⟨_, F38⟩
    g_law := PySem.W.mg_of X G a38
    n_all := PySem.W.mg_none_of X G z_all
    n_bool := PySem.W.mg_none_of X G z_bool
    n_enumerate := PySem.W.mg_none_of X G z_enumerate
    n_int := PySem.W.mg_none_of X G z_int
    n_isinstance := PySem.W.mg_none_of X G z_isinstance
    n_len := PySem.W.mg_none_of X G z_len
    n_list := PySem.W.mg_none_of X G z_list
    n_max := PySem.W.mg_none_of X G z_max
    n_min := PySem.W.mg_none_of X G z_min
    n_range := PySem.W.mg_none_of X G z_range
    n_set := PySem.W.mg_none_of X G z_set
    n_sorted := PySem.W.mg_none_of X G z_sorted
    n_sum := PySem.W.mg_none_of X G z_sum
    n_tuple := PySem.W.mg_none_of X G z_tuple
    k_MOST_BITS_codes := ⟨_, PySem.W.mg_of X G kk_MOST_BITS_codes⟩
    k_MOST_BITS_making := ⟨_, PySem.W.mg_of X G kk_MOST_BITS_making⟩
    k_MOST_VALUES := ⟨_, PySem.W.mg_of X G kk_MOST_VALUES⟩
    k_MOST_WORDS := ⟨_, PySem.W.mg_of X G kk_MOST_WORDS⟩
    c_Code := ⟨⟨pg0, hd0, po0, sa0⟩, (fun f hf => by
      have hf : f ∈ (["_words", "_numbers"] : List Str) := hf
      simp only [List.mem_cons, List.not_mem_nil, or_false] at hf
      rcases hf with rfl | rfl
      · exact no0_0
      · exact no0_1), (by show (["_words", "_numbers"] : List Str).Nodup; decide), (by show (["_words", "_numbers"] : List Str).length < 1000; decide)⟩
    nm_Code := rfl
    p_Code_words := ⟨_, ⟨a4, ge4, ta4, ⟨_, re4⟩⟩⟩
    m_Code := ⟨⟨mk0, a3, fn3, kc0⟩, PySem.W.mg_of X G aC0⟩
    fns := fun _ => rfl }
  exact ⟨_, T, fun s v => .of_eq rfl, fun base _ _ => law_ok B n F38⟩
/-- .. as the end asks it -/
def LawTrue (n : Nat) : Prop := ∀ ns : List Int, ns.length ≤ 63 → ∃ h2, fnRun 1 8 false (b_law (FT n)) [.p (.scr (ns.map .int))] [] = some (.ok (.p (.bl true)), h2)
theorem all_law {l : PySem.W.OpenLaw} {w : World} {K : PySem.W.Frag} {h : Heap} {mg : Str → Option Value} {fa : Addr} (n : Nat) (HT : LawTrue n) (X : K.In h) (G : h.Ns mainGlobals mg) (hfa : mg "law" = some (.ref fa))
    {C0 : Addr} {f0 : Addr} {od0 an0 : Option Addr} {sl0 : Array (Option Value)} {oc0 kV0 dc0 pm0 cd0 ct0 : Value} {f1 : Addr} {od1 an1 : Option Addr} {sl1 : Array (Option Value)} {oc1 kV1 dc1 pm1 cd1 ct1 : Value} {f2 : Addr} {od2 an2 : Option Addr} {sl2 : Array (Option Value)} {oc2 kV2 dc2 pm2 cd2 ct2 : Value} {f3 : Addr} {od3 an3 : Option Addr} {sl3 : Array (Option Value)} {oc3 kV3 dc3 pm3 cd3 ct3 : Value} {f4 : Addr} {od4 an4 : Option Addr} {sl4 : Array (Option Value)} {oc4 kV4 dc4 pm4 cd4 ct4 : Value} {p4 : Addr} {rest4 : List Value} {f16 : Addr} {od16 an16 : Option Addr} {sl16 : Array (Option Value)} {oc16 kV16 dc16 pm16 cd16 ct16 : Value} {f17 : Addr} {od17 an17 : Option Addr} {sl17 : Array (Option Value)} {oc17 kV17 dc17 pm17 cd17 ct17 : Value} {f21 : Addr} {od21 an21 : Option Addr} {sl21 : Array (Option Value)} {oc21 kV21 dc21 pm21 cd21 ct21 : Value} {f22 : Addr} {od22 an22 : Option Addr} {sl22 : Array (Option Value)} {oc22 kV22 dc22 pm22 cd22 ct22 : Value} {f23 : Addr} {od23 an23 : Option Addr} {sl23 : Array (Option Value)} {oc23 kV23 dc23 pm23 cd23 ct23 : Value} {f24 : Addr} {od24 an24 : Option Addr} {sl24 : Array (Option Value)} {oc24 kV24 dc24 pm24 cd24 ct24 : Value} {f25 : Addr} {od25 an25 : Option Addr} {sl25 : Array (Option Value)} {oc25 kV25 dc25 pm25 cd25 ct25 : Value} {f26 : Addr} {od26 an26 : Option Addr} {sl26 : Array (Option Value)} {oc26 kV26 dc26 pm26 cd26 ct26 : Value} {f27 : Addr} {od27 an27 : Option Addr} {sl27 : Array (Option Value)} {oc27 kV27 dc27 pm27 cd27 ct27 : Value} {f28 : Addr} {od28 an28 : Option Addr} {sl28 : Array (Option Value)} {oc28 kV28 dc28 pm28 cd28 ct28 : Value} {f29 : Addr} {od29 an29 : Option Addr} {sl29 : Array (Option Value)} {oc29 kV29 dc29 pm29 cd29 ct29 : Value} {f30 : Addr} {od30 an30 : Option Addr} {sl30 : Array (Option Value)} {oc30 kV30 dc30 pm30 cd30 ct30 : Value} {f31 : Addr} {od31 an31 : Option Addr} {sl31 : Array (Option Value)} {oc31 kV31 dc31 pm31 cd31 ct31 : Value} {f32 : Addr} {od32 an32 : Option Addr} {sl32 : Array (Option Value)} {oc32 kV32 dc32 pm32 cd32 ct32 : Value} {f33 : Addr} {od33 an33 : Option Addr} {sl33 : Array (Option Value)} {oc33 kV33 dc33 pm33 cd33 ct33 : Value} {f34 : Addr} {od34 an34 : Option Addr} {sl34 : Array (Option Value)} {oc34 kV34 dc34 pm34 cd34 ct34 : Value} {f35 : Addr} {od35 an35 : Option Addr} {sl35 : Array (Option Value)} {oc35 kV35 dc35 pm35 cd35 ct35 : Value} {f36 : Addr} {od36 an36 : Option Addr} {sl36 : Array (Option Value)} {oc36 kV36 dc36 pm36 cd36 ct36 : Value} {f37 : Addr} {od37 an37 : Option Addr} {sl37 : Array (Option Value)} {oc37 kV37 dc37 pm37 cd37 ct37 : Value} {f38 : Addr} {od38 an38 : Option Addr} {sl38 : Array (Option Value)} {oc38 kV38 dc38 pm38 cd38 ct38 : Value} {t_MOST_BITS_codes : Tok} {t_MOST_BITS_making : Tok} {t_MOST_VALUES : Tok} {t_MOST_WORDS : Tok}
    (aC0 : PySem.W.nsIn K mainGlobals "Code" = some (some (.ref C0)))
    (pg0 : PySem.W.plainGet K C0 Str.empty = true)
    (hd0 : PySem.W.hasDictIn K C0 = true)
    (po0 : PySem.W.plainOver K C0 = true)
    (sa0 : PySem.W.findIn K (.ref C0) "__setattr__" = some (some (.builtin "object.__setattr__")))
    (mk0 : PySem.W.makesIn K C0 = true)
    (kc0 : PySem.W.keepIn K (.ref C0) = true)
    (no0_0 : PySem.W.findIn K (.ref C0) "_words" = some none)
    (no0_1 : PySem.W.findIn K (.ref C0) "_numbers" = some none)
    (a0 : PySem.W.nsIn K mainGlobals "is_whole" = some (some (.ref f0)))
    (l0 : K.lookup f0 = some ⟨oc0, od0, .func (PySem.W.fnOf "is_whole" "is_whole" (defArgs s_is_whole) (defBody s_is_whole) (defScope s_is_whole) .none kV0 dc0 pm0 an0 cd0 ct0), sl0⟩)
    (c0 : PySem.W.codeIn K cd0 "is_whole" = true)
    (k0 : PySem.W.keepIn K (.ref f0) = true)
    (a1 : PySem.W.nsIn K mainGlobals "is_between" = some (some (.ref f1)))
    (l1 : K.lookup f1 = some ⟨oc1, od1, .func (PySem.W.fnOf "is_between" "is_between" (defArgs s_is_between) (defBody s_is_between) (defScope s_is_between) .none kV1 dc1 pm1 an1 cd1 ct1), sl1⟩)
    (c1 : PySem.W.codeIn K cd1 "is_between" = true)
    (k1 : PySem.W.keepIn K (.ref f1) = true)
    (a2 : PySem.W.nsIn K mainGlobals "check_number" = some (some (.ref f2)))
    (l2 : K.lookup f2 = some ⟨oc2, od2, .func (PySem.W.fnOf "check_number" "check_number" (defArgs s_check_number) (defBody s_check_number) (defScope s_check_number) .none kV2 dc2 pm2 an2 cd2 ct2), sl2⟩)
    (c2 : PySem.W.codeIn K cd2 "check_number" = true)
    (k2 : PySem.W.keepIn K (.ref f2) = true)
    (a3 : PySem.W.findIn K (.ref C0) "__init__" = some (some (.ref f3)))
    (fn3 : PySem.W.isFn K (.ref f3) = true)
    (l3 : K.lookup f3 = some ⟨oc3, od3, .func (PySem.W.fnOf "__init__" "Code.__init__" (defArgs s_Code_init) (defBody s_Code_init) (defScope s_Code_init) .none kV3 dc3 pm3 an3 cd3 ct3), sl3⟩)
    (c3 : PySem.W.codeIn K cd3 "Code.__init__" = true)
    (k3 : PySem.W.keepIn K (.ref f3) = true)
    (a4 : PySem.W.findIn K (.ref C0) "words" = some (some (.ref p4)))
    (ge4 : PySem.W.specialIn K (.ref p4) "__get__" = some (some (.builtin "property.__get__")))
    (ta4 : PySem.W.takesIn K (.ref p4) = some true)
    (re4 : PySem.W.recIn K p4 "property" = some (.ref f4 :: rest4))
    (l4 : K.lookup f4 = some ⟨oc4, od4, .func (PySem.W.fnOf "words" "Code.words" (defArgs s_Code_words) (defBody s_Code_words) (defScope s_Code_words) .none kV4 dc4 pm4 an4 cd4 ct4), sl4⟩)
    (c4 : PySem.W.codeIn K cd4 "Code.words" = true)
    (k4 : PySem.W.keepIn K (.ref f4) = true)
    (a16 : PySem.W.nsIn K mainGlobals "is_word" = some (some (.ref f16)))
    (l16 : K.lookup f16 = some ⟨oc16, od16, .func (PySem.W.fnOf "is_word" "is_word" (defArgs s_is_word) (defBody s_is_word) (defScope s_is_word) .none kV16 dc16 pm16 an16 cd16 ct16), sl16⟩)
    (c16 : PySem.W.codeIn K cd16 "is_word" = true)
    (k16 : PySem.W.keepIn K (.ref f16) = true)
    (a17 : PySem.W.nsIn K mainGlobals "are_words" = some (some (.ref f17)))
    (l17 : K.lookup f17 = some ⟨oc17, od17, .func (PySem.W.fnOf "are_words" "are_words" (defArgs s_are_words) (defBody s_are_words) (defScope s_are_words) .none kV17 dc17 pm17 an17 cd17 ct17), sl17⟩)
    (c17 : PySem.W.codeIn K cd17 "are_words" = true)
    (k17 : PySem.W.keepIn K (.ref f17) = true)
    (a21 : PySem.W.nsIn K mainGlobals "stepped" = some (some (.ref f21)))
    (l21 : K.lookup f21 = some ⟨oc21, od21, .func (PySem.W.fnOf "stepped" "stepped" (defArgs s_stepped) (defBody s_stepped) (defScope s_stepped) .none kV21 dc21 pm21 an21 cd21 ct21), sl21⟩)
    (c21 : PySem.W.codeIn K cd21 "stepped" = true)
    (k21 : PySem.W.keepIn K (.ref f21) = true)
    (a22 : PySem.W.nsIn K mainGlobals "fresh_places" = some (some (.ref f22)))
    (l22 : K.lookup f22 = some ⟨oc22, od22, .func (PySem.W.fnOf "fresh_places" "fresh_places" (defArgs s_fresh_places) (defBody s_fresh_places) (defScope s_fresh_places) .none kV22 dc22 pm22 an22 cd22 ct22), sl22⟩)
    (c22 : PySem.W.codeIn K cd22 "fresh_places" = true)
    (k22 : PySem.W.keepIn K (.ref f22) = true)
    (a23 : PySem.W.nsIn K mainGlobals "next_words" = some (some (.ref f23)))
    (l23 : K.lookup f23 = some ⟨oc23, od23, .func (PySem.W.fnOf "next_words" "next_words" (defArgs s_next_words) (defBody s_next_words) (defScope s_next_words) .none kV23 dc23 pm23 an23 cd23 ct23), sl23⟩)
    (c23 : PySem.W.codeIn K cd23 "next_words" = true)
    (k23 : PySem.W.keepIn K (.ref f23) = true)
    (a24 : PySem.W.nsIn K mainGlobals "grown" = some (some (.ref f24)))
    (l24 : K.lookup f24 = some ⟨oc24, od24, .func (PySem.W.fnOf "grown" "grown" (defArgs s_grown) (defBody s_grown) (defScope s_grown) .none kV24 dc24 pm24 an24 cd24 ct24), sl24⟩)
    (c24 : PySem.W.codeIn K cd24 "grown" = true)
    (k24 : PySem.W.keepIn K (.ref f24) = true)
    (a25 : PySem.W.nsIn K mainGlobals "smallest" = some (some (.ref f25)))
    (l25 : K.lookup f25 = some ⟨oc25, od25, .func (PySem.W.fnOf "smallest" "smallest" (defArgs s_smallest) (defBody s_smallest) (defScope s_smallest) .none kV25 dc25 pm25 an25 cd25 ct25), sl25⟩)
    (c25 : PySem.W.codeIn K cd25 "smallest" = true)
    (k25 : PySem.W.keepIn K (.ref f25) = true)
    (a26 : PySem.W.nsIn K mainGlobals "anything" = some (some (.ref f26)))
    (l26 : K.lookup f26 = some ⟨oc26, od26, .func (PySem.W.fnOf "anything" "anything" (defArgs s_anything) (defBody s_anything) (defScope s_anything) .none kV26 dc26 pm26 an26 cd26 ct26), sl26⟩)
    (c26 : PySem.W.codeIn K cd26 "anything" = true)
    (k26 : PySem.W.keepIn K (.ref f26) = true)
    (a27 : PySem.W.nsIn K mainGlobals "check_sizes" = some (some (.ref f27)))
    (l27 : K.lookup f27 = some ⟨oc27, od27, .func (PySem.W.fnOf "check_sizes" "check_sizes" (defArgs s_check_sizes) (defBody s_check_sizes) (defScope s_check_sizes) .none kV27 dc27 pm27 an27 cd27 ct27), sl27⟩)
    (c27 : PySem.W.codeIn K cd27 "check_sizes" = true)
    (k27 : PySem.W.keepIn K (.ref f27) = true)
    (a28 : PySem.W.nsIn K mainGlobals "single" = some (some (.ref f28)))
    (l28 : K.lookup f28 = some ⟨oc28, od28, .func (PySem.W.fnOf "single" "single" (defArgs s_single) (defBody s_single) (defScope s_single) .none kV28 dc28 pm28 an28 cd28 ct28), sl28⟩)
    (c28 : PySem.W.codeIn K cd28 "single" = true)
    (k28 : PySem.W.keepIn K (.ref f28) = true)
    (a29 : PySem.W.nsIn K mainGlobals "_law_cell_at" = some (some (.ref f29)))
    (l29 : K.lookup f29 = some ⟨oc29, od29, .func (PySem.W.fnOf "_law_cell_at" "_law_cell_at" (defArgs s_law_cell_at) (defBody s_law_cell_at) (defScope s_law_cell_at) .none kV29 dc29 pm29 an29 cd29 ct29), sl29⟩)
    (c29 : PySem.W.codeIn K cd29 "_law_cell_at" = true)
    (k29 : PySem.W.keepIn K (.ref f29) = true)
    (a30 : PySem.W.nsIn K mainGlobals "_law_pen" = some (some (.ref f30)))
    (l30 : K.lookup f30 = some ⟨oc30, od30, .func (PySem.W.fnOf "_law_pen" "_law_pen" (defArgs s_law_pen) (defBody s_law_pen) (defScope s_law_pen) .none kV30 dc30 pm30 an30 cd30 ct30), sl30⟩)
    (c30 : PySem.W.codeIn K cd30 "_law_pen" = true)
    (k30 : PySem.W.keepIn K (.ref f30) = true)
    (a31 : PySem.W.nsIn K mainGlobals "_law_draw" = some (some (.ref f31)))
    (l31 : K.lookup f31 = some ⟨oc31, od31, .func (PySem.W.fnOf "_law_draw" "_law_draw" (defArgs s_law_draw) (defBody s_law_draw) (defScope s_law_draw) .none kV31 dc31 pm31 an31 cd31 ct31), sl31⟩)
    (c31 : PySem.W.codeIn K cd31 "_law_draw" = true)
    (k31 : PySem.W.keepIn K (.ref f31) = true)
    (a32 : PySem.W.nsIn K mainGlobals "_law_mixed" = some (some (.ref f32)))
    (l32 : K.lookup f32 = some ⟨oc32, od32, .func (PySem.W.fnOf "_law_mixed" "_law_mixed" (defArgs s_law_mixed) (defBody s_law_mixed) (defScope s_law_mixed) .none kV32 dc32 pm32 an32 cd32 ct32), sl32⟩)
    (c32 : PySem.W.codeIn K cd32 "_law_mixed" = true)
    (k32 : PySem.W.keepIn K (.ref f32) = true)
    (a33 : PySem.W.nsIn K mainGlobals "_law_all" = some (some (.ref f33)))
    (l33 : K.lookup f33 = some ⟨oc33, od33, .func (PySem.W.fnOf "_law_all" "_law_all" (defArgs s_law_all) (defBody s_law_all) (defScope s_law_all) .none kV33 dc33 pm33 an33 cd33 ct33), sl33⟩)
    (c33 : PySem.W.codeIn K cd33 "_law_all" = true)
    (k33 : PySem.W.keepIn K (.ref f33) = true)
    (a34 : PySem.W.nsIn K mainGlobals "_law_near" = some (some (.ref f34)))
    (l34 : K.lookup f34 = some ⟨oc34, od34, .func (PySem.W.fnOf "_law_near" "_law_near" (defArgs s_law_near) (defBody s_law_near) (defScope s_law_near) .none kV34 dc34 pm34 an34 cd34 ct34), sl34⟩)
    (c34 : PySem.W.codeIn K cd34 "_law_near" = true)
    (k34 : PySem.W.keepIn K (.ref f34) = true)
    (a35 : PySem.W.nsIn K mainGlobals "_law_apart" = some (some (.ref f35)))
    (l35 : K.lookup f35 = some ⟨oc35, od35, .func (PySem.W.fnOf "_law_apart" "_law_apart" (defArgs s_law_apart) (defBody s_law_apart) (defScope s_law_apart) .none kV35 dc35 pm35 an35 cd35 ct35), sl35⟩)
    (c35 : PySem.W.codeIn K cd35 "_law_apart" = true)
    (k35 : PySem.W.keepIn K (.ref f35) = true)
    (a36 : PySem.W.nsIn K mainGlobals "_law_rings" = some (some (.ref f36)))
    (l36 : K.lookup f36 = some ⟨oc36, od36, .func (PySem.W.fnOf "_law_rings" "_law_rings" (defArgs s_law_rings) (defBody s_law_rings) (defScope s_law_rings) .none kV36 dc36 pm36 an36 cd36 ct36), sl36⟩)
    (c36 : PySem.W.codeIn K cd36 "_law_rings" = true)
    (k36 : PySem.W.keepIn K (.ref f36) = true)
    (a37 : PySem.W.nsIn K mainGlobals "_law_due" = some (some (.ref f37)))
    (l37 : K.lookup f37 = some ⟨oc37, od37, .func (PySem.W.fnOf "_law_due" "_law_due" (defArgs s_law_due) (defBody s_law_due) (defScope s_law_due) .none kV37 dc37 pm37 an37 cd37 ct37), sl37⟩)
    (c37 : PySem.W.codeIn K cd37 "_law_due" = true)
    (k37 : PySem.W.keepIn K (.ref f37) = true)
    (a38 : PySem.W.nsIn K mainGlobals "law" = some (some (.ref f38)))
    (l38 : K.lookup f38 = some ⟨oc38, od38, .func (PySem.W.fnOf "law" "law" (defArgs s_law) (defBody s_law) (defScope s_law) .none kV38 dc38 pm38 an38 cd38 ct38), sl38⟩)
    (c38 : PySem.W.codeIn K cd38 "law" = true)
    (k38 : PySem.W.keepIn K (.ref f38) = true)
    (kk_MOST_BITS_codes : PySem.W.nsIn K mainGlobals "MOST_BITS_codes" = some (some (.int 5 t_MOST_BITS_codes)))
    (kk_MOST_BITS_making : PySem.W.nsIn K mainGlobals "MOST_BITS_making" = some (some (.int 4 t_MOST_BITS_making)))
    (kk_MOST_VALUES : PySem.W.nsIn K mainGlobals "MOST_VALUES" = some (some (.int 16 t_MOST_VALUES)))
    (kk_MOST_WORDS : PySem.W.nsIn K mainGlobals "MOST_WORDS" = some (some (.int 16 t_MOST_WORDS)))
    (z_all : PySem.W.nsIn K mainGlobals "all" = some none)
    (z_bool : PySem.W.nsIn K mainGlobals "bool" = some none)
    (z_enumerate : PySem.W.nsIn K mainGlobals "enumerate" = some none)
    (z_int : PySem.W.nsIn K mainGlobals "int" = some none)
    (z_isinstance : PySem.W.nsIn K mainGlobals "isinstance" = some none)
    (z_len : PySem.W.nsIn K mainGlobals "len" = some none)
    (z_list : PySem.W.nsIn K mainGlobals "list" = some none)
    (z_max : PySem.W.nsIn K mainGlobals "max" = some none)
    (z_min : PySem.W.nsIn K mainGlobals "min" = some none)
    (z_range : PySem.W.nsIn K mainGlobals "range" = some none)
    (z_set : PySem.W.nsIn K mainGlobals "set" = some none)
    (z_sorted : PySem.W.nsIn K mainGlobals "sorted" = some none)
    (z_sum : PySem.W.nsIn K mainGlobals "sum" = some none)
    (z_tuple : PySem.W.nsIn K mainGlobals "tuple" = some none) :
    ∃ (fd : FuncData), (∀ (s : Shared) (v : Value), BindsTo s fd ⟨[v], []⟩ [("_law_script", v)]) ∧ ∀ base : Heap, K.In base → base.Ns mainGlobals mg → FnOk l.prog w K mg base (L2.CX l.prog w) (2 * n + 2) fa fd ["_law_script"] (spScript K) := by
  obtain ⟨fd, T, hb, F⟩ := all_mk (l := l) (w := w) X G hfa aC0 pg0 hd0 po0 sa0 mk0 kc0 no0_0 no0_1 a0 l0 c0 k0 a1 l1 c1 k1 a2 l2 c2 k2 a3 fn3 l3 c3 k3 a4 ge4 ta4 re4 l4 c4 k4 a16 l16 c16 k16 a17 l17 c17 k17 a21 l21 c21 k21 a22 l22 c22 k22 a23 l23 c23 k23 a24 l24 c24 k24 a25 l25 c25 k25 a26 l26 c26 k26 a27 l27 c27 k27 a28 l28 c28 k28 a29 l29 c29 k29 a30 l30 c30 k30 a31 l31 c31 k31 a32 l32 c32 k32 a33 l33 c33 k33 a34 l34 c34 k34 a35 l35 c35 k35 a36 l36 c36 k36 a37 l37 c37 k37 a38 l38 c38 k38 kk_MOST_BITS_codes kk_MOST_BITS_making kk_MOST_VALUES kk_MOST_WORDS z_all z_bool z_enumerate z_int z_isinstance z_len z_list z_max z_min z_range z_set z_sorted z_sum z_tuple n
  exact ⟨fd, hb, fun base h1 h2 => (F base h1 h2).imp fun vs H Q E z => sp_script2 z HT⟩
end Lw
end T19
section T20
set_option Elab.async false
set_option linter.all false
set_option maxRecDepth 100000
namespace Lw
open PySem PySem.Spec PyProof.Rows L2 EV
theorem FT_31 (n : Nat) : FT (n + 1) 31 = frame (fnRun 2 4 false (b_law_draw (FT n))) := rfl
theorem ix0 : ixN 3 0 = some 0 := by decide
theorem ix1 : ixN 3 1 = some 1 := by decide
theorem ix2 : ixN 3 2 = some 2 := by decide
theorem frame_ref {f : List Vl → Hs → Rs Vl} {n : Nat} {r : List Vl} {h : Hs} : frame f (.ref n :: r) h = f (.ref n :: r) h := rfl
abbrev penL (a b c : Int) : P := .lst [.int a, .int b, .int c]
theorem cMul1 {i j : Int} (h0 : 0 ≤ i) (h1 : i < 2 ^ 64) : cMul i j = true := by
  unfold cMul
  rw [decide_eq_true (show -(2 ^ 64) < i by omega), decide_eq_true h1]; rfl
theorem cMul2 {i j : Int} (h0 : 0 ≤ j) (h1 : j < 2 ^ 64) : cMul i j = true := by
  unfold cMul
  rw [decide_eq_true (show -(2 ^ 64) < j by omega), decide_eq_true h1, Bool.and_self, Bool.or_true]
theorem draw_ok (N n : Nat) (h : Hs) (a b c m : Int) (hm : 0 < m) (hm2 : m < 1073741824) (hn : h[n]? = some (penL a b c)) : ∃ r a' b' c', FT (N + 1) 31 [.ref n, .p (.int m)] h = some (.ok (.p (.int r)), h.set n (penL a' b' c')) ∧ 0 ≤ r ∧ r < m := by
  have hl : n < h.length := (List.getElem?_eq_some_iff.mp hn).1
  rw [FT_31, frame_ref]
  have hmm := Int.emod_nonneg
  have gs : ∀ p : P, (h.set n p)[n]? = some p := fun p => List.getElem?_set_self hl
  by_cases ha : 0 < a
  · refine ⟨a % m, a / m, b, c, ?_, Int.emod_nonneg _ (by omega), Int.emod_lt_of_pos _ hm⟩
    simp [fnRun, b_law_draw, sNil, sSeq, sIf, sSet, sSub, sRet, bndS, bnd, EV.ret, mT, m2, mVar, mC, fIdx, seqV, hn, ix0, fGt, ha, wSub, fMod, fDiv, fI2, hm, hm2, bT, EV.backV, List.take_of_length_le]
  · have q1 : ∀ x : Int, 0 ≤ x % 2147483647 ∧ x % 2147483647 < 2147483647 := fun x => ⟨Int.emod_nonneg _ (by decide), Int.emod_lt_of_pos _ (by decide)⟩
    have q2 : ∀ x : Int, 0 ≤ x % 2147483629 ∧ x % 2147483629 < 2147483629 := fun x => ⟨Int.emod_nonneg _ (by decide), Int.emod_lt_of_pos _ (by decide)⟩
    have w1 : ∀ x y : Int, cMul (x % 2147483647) y = true := fun x y => cMul1 (q1 x).1 (by have := (q1 x).2; omega)
    have w2 : ∀ x y : Int, cMul (x % 2147483629) y = true := fun x y => cMul1 (q2 x).1 (by have := (q2 x).2; omega)
    have w3 : ∀ x : Int, cMul x 48271 = true := fun x => cMul2 (by decide) (by decide)
    have w4 : ∀ x : Int, cMul 1009 x = true := fun x => cMul1 (by decide) (by decide)
    have w5 : ∀ x : Int, cMul 69621 x = true := fun x => cMul1 (by decide) (by decide)
    have w6 : ∀ x : Int, cMul 40014 x = true := fun x => cMul1 (by decide) (by decide)
    obtain ⟨b', eb⟩ : ∃ b', b' = (b * 48271 + 1009 * (c + 1) + 7) % 2147483647 := ⟨_, rfl⟩
    obtain ⟨d0, e0⟩ : ∃ d0, d0 = (b' * b' + 69621 * b' + 11) % 2147483629 := ⟨_, rfl⟩
    have w7 : ∀ y : Int, cMul b' y = true := fun y => by rw [eb]; exact w1 _ _
    have w8 : ∀ y : Int, cMul d0 y = true := fun y => by rw [e0]; exact w2 _ _
    refine ⟨(d0 * d0 + 40014 * d0) % 2147483587 / 16 % m, a, b', c + 1, ?_, Int.emod_nonneg _ (by omega), Int.emod_lt_of_pos _ hm⟩
    simp [fnRun, b_law_draw, sNil, sSeq, sIf, sSet, sSub, sRet, bndS, bnd, EV.ret, mT, m2, mVar, mC, fIdx, seqV, hn, ix0, ix1, ix2, fGt, ha, wSub, fMod, fDiv, fMulI, fAdd, pI, fI2, hm, hm2, bT, EV.backV, List.take_of_length_le, gs, w3, w4, w5, w6, ← eb, ← e0, w7, w8]

def popE (F : FnsT) : ME := mMethL fPopAt (mVar 2) (aCons (mAll (F 31) (aCons (mVar 0) (aCons (mAll kLen (aCons (mVar 2) (aNil))) (aNil)))) (aNil))
theorem pop_ok (N n : Nat) (h0 : Hs) (S : Sl) (a b c : Int) (R : List P) (hS0 : S[0]? = some (some (.ref n))) (hS2 : S[2]? = some (some (.ref h0.length))) (hn : h0[n]? = some (penL a b c)) (hR : R ≠ []) (hR2 : R.length ≤ 1000) :
    ∃ d a' b' c' R', popE (FT (N + 1)) S (h0 ++ [.lst R]) = some (.ok (.p d), h0.set n (penL a' b' c') ++ [.lst R']) ∧ d ∈ R ∧ (∀ x ∈ R', x ∈ R) ∧ R'.length + 1 = R.length := by
  have hl : n < h0.length := (List.getElem?_eq_some_iff.mp hn).1
  have pos : 0 < R.length := List.length_pos_iff.mpr hR
  have at1 : (h0 ++ [P.lst R])[n]? = some (penL a b c) := by rw [List.getElem?_append_left hl]; exact hn
  have at2 : (h0 ++ [P.lst R])[h0.length]? = some (.lst R) := by simp
  obtain ⟨r, a', b', c', e, r0, r1⟩ := draw_ok N n (h0 ++ [.lst R]) a b c R.length (by omega) (by omega) at1
  have e2 : (h0 ++ [P.lst R]).set n (penL a' b' c') = h0.set n (penL a' b' c') ++ [.lst R] := by rw [List.set_append_left _ _ hl]
  rw [e2] at e
  have at3 : (h0.set n (penL a' b' c') ++ [P.lst R])[h0.length]? = some (.lst R) := by
    rw [List.getElem?_append_right (by simp)]; simp
  obtain ⟨j, hj⟩ : ∃ j : Nat, r = j := ⟨r.toNat, by omega⟩
  subst hj
  have hjl : j < R.length := by omega
  have hix : ixN R.length (j : Int) = some j := by
    unfold ixN
    rw [if_pos (by omega), if_pos (by omega)]; simp
  refine ⟨R[j], a', b', c', R.eraseIdx j, ?_, List.getElem_mem hjl, fun x hx => List.mem_of_mem_eraseIdx hx, by rw [List.length_eraseIdx_of_lt hjl]; omega⟩
  have hb : (j : Int) < 9223372036854775808 := by omega
  simp [popE, mMethL, bnd, EV.ret, mVar, hS0, hS2, isLstV, at2, aCons, aNil, mAll, kLen, seqV, pI, e, fPopAt, at3, hix, hjl, hb]

theorem comp_ok (N n : Nat) (L : List P) (S : Sl) (hS : S.length = 4) : ∀ (k i : Nat) (h0 : Hs) (a b c : Int) (R : List P), k + i = L.length → R.length = k → R.length ≤ 1000 → S[0]? = some (some (.ref n)) → S[2]? = some (some (.ref h0.length)) → h0[n]? = some (penL a b c) →
    ∃ ys a' b' c' R', compL (gN 3) tYesM (popE (FT (N + 1))) S (.d L) k i (h0 ++ [.lst R]) = some (.ok ys, h0.set n (penL a' b' c') ++ [.lst R']) ∧ ys.length = k ∧ ∀ y ∈ ys, y ∈ R
  | 0, i, h0, a, b, c, R, hk, hR, _, _, _, hn => by
    refine ⟨[], a, b, c, R, ?_, rfl, fun y h => by cases h⟩
    have e : L[i]? = none := List.getElem?_eq_none (by omega)
    have e2 : h0.set n (penL a b c) = h0 := by
      refine List.ext_getElem? fun m => ?_
      by_cases z : n = m
      · subst z; rw [List.getElem?_set_self (List.getElem?_eq_some_iff.mp hn).1, hn]
      · rw [List.getElem?_set_ne z]
    simp [compL, Itd.at, e, EV.ret, e2]
  | k + 1, i, h0, a, b, c, R, hk, hR, hR2, h1, h2, hn => by
    have il : i < L.length := by omega
    have S1 : (S.set 3 (some (.p L[i])))[0]? = some (some (.ref n)) := by rw [List.getElem?_set_ne (by decide)]; exact h1
    have S2 : (S.set 3 (some (.p L[i])))[2]? = some (some (.ref h0.length)) := by rw [List.getElem?_set_ne (by decide)]; exact h2
    obtain ⟨d, a', b', c', R', e, dR, sub, len⟩ := pop_ok N n h0 _ a b c R S1 S2 hn (by intro z; rw [z] at hR; simp at hR) hR2
    have hl : n < h0.length := (List.getElem?_eq_some_iff.mp hn).1
    obtain ⟨ys, a2, b2, c2, R2, e2, l2, m2⟩ := comp_ok N n L S hS k (i + 1) (h0.set n (penL a' b' c')) a' b' c' R' (by omega) (by omega) (by omega) h1 (by simpa using h2) (List.getElem?_set_self hl)
    refine ⟨d :: ys, a2, b2, c2, R2, ?_, by simp [l2], fun y hy => ?_⟩
    · have at' : (Itd.d L).at i (h0 ++ [.lst R]) = some (some L[i]) := by simp [Itd.at, il]
      have e3 : gN 3 L[i] S = some (S.set 3 (some (.p L[i]))) := rfl
      simp only [compL, at', e3, tYesM, EV.ret, noErr, bnd, e, if_true, e2]
      rw [List.set_set]
    · rcases List.mem_cons.mp hy with z | z
      · rw [z]; exact dR
      · exact sub y (m2 y z)
theorem FT_32 (n : Nat) : FT (n + 1) 32 = frame (fnRun 2 4 false (b_law_mixed (FT n))) := rfl
theorem mixed_ok (N n : Nat) (h : Hs) (a b c : Int) (L : List P) (hL : L.length ≤ 1000) (hn : h[n]? = some (penL a b c)) :
    ∃ ys a' b' c', FT (N + 2) 32 [.ref n, .p (.lst L)] h = some (.ok (.p (.lst ys)), h.set n (penL a' b' c')) ∧ ys.length = L.length ∧ ∀ y ∈ ys, y ∈ L := by
  have hl : n < h.length := (List.getElem?_eq_some_iff.mp hn).1
  rw [FT_32, frame_ref]
  let S : Sl := [some (.ref n), some (.p (.lst L)), some (.ref h.length), none]
  obtain ⟨ys, a', b', c', R', e, l, m⟩ := comp_ok N n L (wipeS S [3]) rfl L.length 0 h a b c L rfl rfl hL rfl rfl hn
  refine ⟨ys, a', b', c', ?_, l, m⟩
  have z : L.length ≤ 16777216 := by omega
  have e' : compL (gN 3) tYesM (mMethL fPopAt (mVar 2) (aCons (mAll (FT (N + 1) 31) (aCons (mVar 0) (aCons (mAll kLen (aCons (mVar 2) (aNil))) (aNil)))) (aNil))) (wipeS [some (.ref n), some (.p (.lst L)), some (.ref h.length), none] [3]) (.d L) L.length 0 (h ++ [.lst L]) = some (.ok ys, h.set n (penL a' b' c') ++ [.lst R']) := e
  simp [fnRun, b_law_mixed, sSeq, sSet, sRet, bndS, bnd, EV.ret, mVar, mAll, aCons, aNil, kListT, kLstT, seqV, seqP, EV.pures, z, mComp, iSeq, iSeqK, Itd.len, e', EV.backV]
end Lw
end T20
section T21
set_option Elab.async false
set_option linter.all false
set_option maxRecDepth 1000000
namespace Lw
open EV
def chk (m w : Int) : Bool := match FT 30 37 [.p (.int m), .p (.int w)] [], FT 30 28 [.p (.int m), .p (.int w)] [] with
  | some (.ok (.p .non), []), some (.ok (.p .non), []) => true
  | some (.ok (.p (.tup ds)), []), some (.ok (.p (.ins 0 [.tup es, x])), []) => match fEqD true (.p (.tup es)) (.p (.tup ds)) [] with
    | some (.ok (.p (.bl false)), []) => true
    | _ => false
  | _, _ => false
def chkW (w : Int) : Bool := (List.range 15).all fun i => chk (i + 2) w
theorem chk1 : chkW 1 = true := by decide +kernel
theorem chk2 : chkW 2 = true := by decide +kernel
theorem chk3 : chkW 3 = true := by decide +kernel
theorem chk4 : chkW 4 = true := by decide +kernel
theorem chk_at {m w : Int} (h1 : 2 ≤ m) (h2 : m ≤ 16) (h3 : 1 ≤ w) (h4 : w ≤ 4) : chk m w = true := by
  have at' : ∀ {w : Int}, chkW w = true → chk m w = true := fun {w} h => by
    have q := List.all_eq_true.mp h (m - 2).toNat (List.mem_range.mpr (by omega))
    have e : (((m - 2).toNat : Nat) : Int) + 2 = m := by omega
    rw [e] at q; exact q
  have c : w = 1 ∨ w = 2 ∨ w = 3 ∨ w = 4 := by omega
  rcases c with z | z | z | z <;> subst z
  · exact at' chk1
  · exact at' chk2
  · exact at' chk3
  · exact at' chk4
def chkA (w : Int) : Bool := match FT 30 33 [.p (.int w)] [] with
  | some (.ok (.p (.lst A)), []) => A.length == 2 || A.length == 4 || A.length == 8 || A.length == 16
  | _ => false
theorem chkA_at {w : Int} (h3 : 1 ≤ w) (h4 : w ≤ 4) : chkA w = true := by
  have c : w = 1 ∨ w = 2 ∨ w = 3 ∨ w = 4 := by omega
  rcases c with z | z | z | z <;> subst z <;> decide +kernel
end Lw
end T21
section T22
set_option Elab.async false
set_option linter.all false
set_option maxRecDepth 100000
namespace Lw
open PySem PySem.Spec PyProof.Rows L2 EV
theorem frame_at {g : List Vl → Hs → Rs Vl} {args : List Vl} {ds : List P} {d : P} (hp : EV.pures args = some ds) (e : frame g args [] = some (.ok (.p d), [])) (h : Hs) : frame g args h = some (.ok (.p d), h) := by
  unfold frame at e ⊢
  rw [hp] at e ⊢
  dsimp only at e ⊢
  split at e
  · rename_i d' q
    cases e
    rfl
  · cases e
  · cases e
abbrev F : FnsT := FT 30
def innerM : MS := sSeq (sSet 7 (mAll (F 28) (aCons (mVar 4) (aCons (mVar 3) (aNil))))) (sSeq (sIf (mOrT (mT (m2 (fEqD true) (m1 (fIsN false) (mVar 7)) (m1 (fIsN false) (mVar 5)))) (mAndT (mT (m1 (fIsN true) (mVar 7))) (mT (m2 (fEqD true) (mProp 0 (F 4) (mVar 7)) (mVar 5))))) (sSeq (sRet (mC (.bl false))) (sNil)) (sNil)) (sNil))
def bodyM : MS := sSeq (sSet 5 (mIf (mT (m2 fLt (mVar 4) (mC (.int 17)))) (mAll (F 37) (aCons (mVar 4) (aCons (mVar 3) (aNil)))) (mC .non))) (sSeq (sFor (iRange1 (aCons (m2 fMulI (mC (.int 2)) (mAll kInt (aCons (m2 fLt (mVar 4) (mC (.int 17))) (aNil)))) (aNil))) (gN 6) innerM) (sNil))
def wideM : MS := sSeq (sFor (iSeq (m2 fAdd (mCut (mAll (F 32) (aCons (mVar 2) (aCons (m2 (fun v w h => kRange [v, w] h) (mC (.int 2)) (mC (.int 17))) (aNil)))) (oNone) (oSome (mC (.int 5)))) (mAll kLstD (aCons (mAll kLen (aCons (mAll (F 33) (aCons (mVar 3) (aNil))) (aNil))) (aCons (m2 fAdd (mAll kLen (aCons (mAll (F 33) (aCons (mVar 3) (aNil))) (aNil))) (mC (.int 2))) (aNil)))))) (gN 4) bodyM) sNil
def kM : MS := sSeq (sSet 2 (mAll (F 30) (aCons (mAll (F 29) (aCons (mVar 0) (aCons (mVar 1) (aNil)))) (aNil)))) (sSeq (sFor (iRange2 (aCons (mC (.int 1)) (aCons (mC (.int 5)) (aNil)))) (gN 3) wideM) sNil)
theorem b_law_eq : b_law F = sSeq (sFor (iRange1 (aCons (mAll kMax2 (aCons (mC (.int 1)) (aCons (mAll kMin2 (aCons (mAll kLen (aCons (mVar 0) (aNil))) (aCons (mC (.int 3)) (aNil)))) (aNil)))) (aNil))) (gN 1) kM) (sSeq (sRet (mC (.bl true))) sNil) := rfl
theorem eq_at {neg : Bool} {a b : P} {x : Bool} (e : fEqD neg (.p a) (.p b) [] = some (.ok (.p (.bl x)), [])) (h : Hs) : fEqD neg (.p a) (.p b) h = some (.ok (.p (.bl x)), h) := by
  unfold fEqD at e ⊢
  simp only [pyV, pB, EV.ret] at e ⊢
  split at e
  · split at e
    · rename_i hs
      cases e
      rw [if_pos hs]
    · cases e
  · cases e
theorem F_at {i : Nat} {g : List Vl → Hs → Rs Vl} (hF : F i = frame g) {args : List Vl} {ds : List P} {d : P} (hp : EV.pures args = some ds) (e : F i args [] = some (.ok (.p d), [])) (h : Hs) : F i args h = some (.ok (.p d), h) := by
  rw [hF] at e ⊢
  exact frame_at hp e h
theorem F4 : F 4 = frame (fnRun 1 1 false (b_Code_words (FT 29))) := rfl
theorem F37 : F 37 = frame (fnRun 2 3 false (b_law_due (FT 29))) := rfl
theorem F28 : F 28 = frame (fnRun 2 2 false (b_single (FT 29))) := rfl
theorem F33 : F 33 = frame (fnRun 1 5 false (b_law_all (FT 29))) := rfl
theorem F29 : F 29 = frame (fnRun 2 2 false (b_law_cell_at (FT 29))) := rfl
theorem words_at (es : List P) (x : P) (h : Hs) : F 4 [.p (.ins 0 [.tup es, x])] h = some (.ok (.p (.tup es)), h) := by
  have e : F 4 [.p (.ins 0 [.tup es, x])] [] = some (.ok (.p (.tup es)), []) := rfl
  exact F_at F4 (ds := [.ins 0 [.tup es, x]]) rfl e h
/-- what is told and what is due -/
theorem told {m w : Int} (h1 : 2 ≤ m) (h2 : m ≤ 16) (h3 : 1 ≤ w) (h4 : w ≤ 4) : ∃ D E : P, (∀ h, F 37 [.p (.int m), .p (.int w)] h = some (.ok (.p D), h)) ∧ (∀ h, F 28 [.p (.int m), .p (.int w)] h = some (.ok (.p E), h)) ∧
    ((D = .non ∧ E = .non) ∨ ∃ ds es x, D = .tup ds ∧ E = .ins 0 [.tup es, x] ∧ ∀ h, fEqD true (.p (.tup es)) (.p (.tup ds)) h = some (.ok (.p (.bl false)), h)) := by
  have c := chk_at h1 h2 h3 h4
  unfold chk at c
  split at c
  · rename_i q1 q2
    exact ⟨_, _, F_at F37 (ds := [.int m, .int w]) rfl q1, F_at F28 (ds := [.int m, .int w]) rfl q2, .inl ⟨rfl, rfl⟩⟩
  · rename_i ds es x q1 q2
    split at c
    · rename_i q3
      exact ⟨_, _, F_at F37 (ds := [.int m, .int w]) rfl q1, F_at F28 (ds := [.int m, .int w]) rfl q2, .inr ⟨_, _, _, rfl, rfl, fun h => eq_at q3 h⟩⟩
    · cases c
  · cases c
/-- the slots that stay -/
structure Stay (S S' : Sl) : Prop where
  len : S'.length = S.length
  at' : ∀ i : Nat, i < 4 → S'[i]? = S[i]?
theorem Stay.set {S S' : Sl} (s : Stay S S') {i : Nat} (hi : 4 ≤ i) (x : Option Vl) : Stay S (S'.set i x) := ⟨by simp [s.len], fun j hj => by rw [List.getElem?_set_ne (by omega)]; exact s.at' j hj⟩
theorem Stay.refl {S : Sl} : Stay S S := ⟨rfl, fun _ _ => rfl⟩
theorem Stay.trans {S S1 S2 : Sl} (s : Stay S S1) (t : Stay S1 S2) : Stay S S2 := ⟨t.len.trans s.len, fun i hi => (t.at' i hi).trans (s.at' i hi)⟩
theorem innerM_ok {m w : Int} {D E : P} (S : Sl) (h : Hs) (hl : S.length = 8) (h3 : S[3]? = some (some (.p (.int w)))) (h4 : S[4]? = some (some (.p (.int m)))) (h5 : S[5]? = some (some (.p D)))
    (e2 : ∀ h, F 28 [.p (.int m), .p (.int w)] h = some (.ok (.p E), h)) (c : (D = .non ∧ E = .non) ∨ ∃ ds es x, D = .tup ds ∧ E = .ins 0 [.tup es, x] ∧ ∀ h, fEqD true (.p (.tup es)) (.p (.tup ds)) h = some (.ok (.p (.bl false)), h)) :
    innerM S h = some (.ok .nx, S.set 7 (some (.p E)), h) := by
  have h7 : (S.set 7 (some (.p E)))[7]? = some (some (.p E)) := List.getElem?_set_self (by omega)
  have h5' : (S.set 7 (some (.p E)))[5]? = some (some (.p D)) := by rw [List.getElem?_set_ne (by decide)]; exact h5
  have ff : ∀ b : Bool, fEqD true (.p (.bl b)) (.p (.bl b)) h = some (.ok (.p (.bl false)), h) := fun b => eq_at (by cases b <;> rfl) h
  rcases c with ⟨rfl, rfl⟩ | ⟨ds, es, x, rfl, rfl, q⟩
  · simp [innerM, sSeq, sSet, bndS, mAll, aCons, aNil, mVar, bnd, EV.ret, h3, h4, e2, sIf, mOrT, mAndT, mT, m2, m1, fIsN, EV.isNon, h7, h5', pB, ff, bT, sNil]
  · simp [innerM, sSeq, sSet, bndS, mAll, aCons, aNil, mVar, bnd, EV.ret, h3, h4, e2, sIf, mOrT, mAndT, mT, m2, m1, fIsN, EV.isNon, h7, h5', pB, ff, bT, sNil, mProp, fldV, words_at, quiet, q]
theorem bodyM_ok {m w : Int} (S : Sl) (h : Hs) (hl : S.length = 8) (h3 : S[3]? = some (some (.p (.int w)))) (h4 : S[4]? = some (some (.p (.int m)))) (hm : (2 ≤ m ∧ m ≤ 16) ∨ m = 18) (w1 : 1 ≤ w) (w4 : w ≤ 4) : ∃ S', bodyM S h = some (.ok .nx, S', h) ∧ Stay S S' := by
  rcases hm with ⟨h1, h2⟩ | rfl
  · obtain ⟨D, E, eD, eE, c⟩ := told h1 h2 w1 w4
    have lt : m < 17 := by omega
    let A : Sl := S.set 5 (some (.p D))
    let B (x : Int) (T : Sl) : Sl := (T.set 6 (some (.p (.int x)))).set 7 (some (.p E))
    have g3 : ∀ (T : Sl) i (x : Option Vl), 4 ≤ i → T[3]? = some (some (.p (.int w))) → (T.set i x)[3]? = some (some (.p (.int w))) := fun T i x hi e => by rw [List.getElem?_set_ne (by omega)]; exact e
    have g4 : ∀ (T : Sl) i (x : Option Vl), 5 ≤ i → T[4]? = some (some (.p (.int m))) → (T.set i x)[4]? = some (some (.p (.int m))) := fun T i x hi e => by rw [List.getElem?_set_ne (by omega)]; exact e
    have g5 : ∀ (T : Sl) i (x : Option Vl), 6 ≤ i → T[5]? = some (some (.p D)) → (T.set i x)[5]? = some (some (.p D)) := fun T i x hi e => by rw [List.getElem?_set_ne (by omega)]; exact e
    have a5 : A[5]? = some (some (.p D)) := List.getElem?_set_self (by omega)
    have turn : ∀ (T : Sl) (x : Int), T.length = 8 → T[3]? = some (some (.p (.int w))) → T[4]? = some (some (.p (.int m))) → T[5]? = some (some (.p D)) → innerM (T.set 6 (some (.p (.int x)))) h = some (.ok .nx, B x T, h) := fun T x l t3 t4 t5 =>
      innerM_ok _ h (by simp [l]) (g3 _ _ _ (by decide) t3) (g4 _ _ _ (by decide) t4) (g5 _ _ _ (by decide) t5) eE c
    have la : A.length = 8 := by simp [A, hl]
    have t1 := turn A 0 la (g3 _ _ _ (by decide) h3) (g4 _ _ _ (by decide) h4) a5
    have t2 := turn (B 0 A) 1 (by simp [B, la]) (g3 _ _ _ (by decide) (g3 _ _ _ (by decide) (g3 _ _ _ (by decide) h3))) (g4 _ _ _ (by decide) (g4 _ _ _ (by decide) (g4 _ _ _ (by decide) h4))) (g5 _ _ _ (by decide) (g5 _ _ _ (by decide) a5))
    refine ⟨B 1 (B 0 A), ?_, ((((Stay.refl.set (by decide) _).set (by decide) _).set (by decide) _).set (by decide) _).set (by decide) _⟩
    have rng : iRange1 (aCons (m2 fMulI (mC (.int 2)) (mAll kInt (aCons (m2 fLt (mVar 4) (mC (.int 17))) (aNil)))) (aNil)) A h = some (.ok (.d [.int 0, .int 1]), h) := by
      have q4 : A[4]? = some (some (.p (.int m))) := g4 _ _ _ (by decide) h4
      simp [iRange1, aCons, aNil, m2, mC, mAll, mVar, bnd, EV.ret, q4, fLt, fI2, lt, kInt, pI, fMulI, cMul1]
      rfl
    have f1 : sSet 5 (mIf (mT (m2 fLt (mVar 4) (mC (.int 17)))) (mAll (F 37) (aCons (mVar 4) (aCons (mVar 3) (aNil)))) (mC .non)) S h = some (.ok .nx, A, h) := by
      simp [sSet, bndS, mIf, mT, m2, mVar, mC, bnd, EV.ret, h4, h3, fLt, fI2, lt, bT, mAll, aCons, aNil, eD, A]
    unfold bodyM
    simp only [sSeq, f1, sFor, rng, bndS, Itd.len, List.length_cons, List.length_nil, forS, Itd.at, gN, sNil]
    simp [t1, t2]
  · have f1 : sSet 5 (mIf (mT (m2 fLt (mVar 4) (mC (.int 17)))) (mAll (F 37) (aCons (mVar 4) (aCons (mVar 3) (aNil)))) (mC .non)) S h = some (.ok .nx, S.set 5 (some (.p .non)), h) := by
      simp [sSet, bndS, mIf, mT, m2, mVar, mC, bnd, EV.ret, h4, fLt, fI2, bT]
    have q4 : (S.set 5 (some (.p .non)))[4]? = some (some (.p (.int 18))) := by rw [List.getElem?_set_ne (by decide)]; exact h4
    have rng : iRange1 (aCons (m2 fMulI (mC (.int 2)) (mAll kInt (aCons (m2 fLt (mVar 4) (mC (.int 17))) (aNil)))) (aNil)) (S.set 5 (some (.p .non))) h = some (.ok (.d []), h) := by
      simp [iRange1, aCons, aNil, m2, mC, mAll, mVar, bnd, EV.ret, q4, fLt, fI2, kInt, pI, fMulI, cMul1]
      rfl
    refine ⟨S.set 5 (some (.p .non)), ?_, Stay.refl.set (by decide) _⟩
    unfold bodyM
    simp [sSeq, f1, sFor, rng, bndS, Itd.len, forS, Itd.at, sNil]
abbrev Good (m : Int) : Prop := (2 ≤ m ∧ m ≤ 16) ∨ m = 18
theorem manyM_ok {w : Int} (w1 : 1 ≤ w) (w4 : w ≤ 4) (Ms : List P) (hMs : ∀ d ∈ Ms, ∃ m, d = .int m ∧ Good m) (h : Hs) : ∀ (k i : Nat) (S : Sl), k + i = Ms.length → S.length = 8 → S[3]? = some (some (.p (.int w))) → ∃ S', forS (gN 4) bodyM (.d Ms) k i S h = some (.ok .nx, S', h) ∧ Stay S S'
  | 0, i, S, hk, _, _ => by
    have e : Ms[i]? = none := List.getElem?_eq_none (by omega)
    exact ⟨S, by simp [forS, Itd.at, e], .refl⟩
  | k + 1, i, S, hk, hl, h3 => by
    have il : i < Ms.length := by omega
    obtain ⟨m, em, gm⟩ := hMs Ms[i] (List.getElem_mem il)
    have s4 : (S.set 4 (some (.p Ms[i])))[4]? = some (some (.p (.int m))) := by rw [em]; exact List.getElem?_set_self (by omega)
    have s3 : (S.set 4 (some (.p Ms[i])))[3]? = some (some (.p (.int w))) := by rw [List.getElem?_set_ne (by decide)]; exact h3
    obtain ⟨S1, e1, st1⟩ := bodyM_ok (S.set 4 (some (.p Ms[i]))) h (by simp [hl]) s3 s4 gm w1 w4
    have st : Stay S S1 := (Stay.refl.set (by decide) _).trans st1
    obtain ⟨S2, e2, st2⟩ := manyM_ok w1 w4 Ms hMs h k (i + 1) S1 (by omega) (by rw [st.len]; exact hl) (by rw [st.at' 3 (by decide)]; exact h3)
    refine ⟨S2, ?_, st.trans st2⟩
    have at' : (Itd.d Ms).at i h = some (some Ms[i]) := by simp [Itd.at, il]
    simp only [forS, at', gN, e1, e2]
theorem mem_cut {ds : List P} {lo hi : Option Int} {d : P} (h : d ∈ cutP ds lo hi) : d ∈ ds := by
  unfold cutP at h
  first
    | exact List.mem_of_mem_drop (List.mem_of_mem_take h)
    | exact List.mem_of_mem_take (List.mem_of_mem_drop h)
theorem len_cut {ds : List P} {lo hi : Option Int} : (cutP ds lo hi).length ≤ ds.length := by
  unfold cutP
  simp only [List.length_take, List.length_drop]
  omega
theorem wideM_ok {w : Int} (w1 : 1 ≤ w) (w4 : w ≤ 4) (S : Sl) (h : Hs) (n : Nat) (a b c : Int) (hl : S.length = 8) (h2 : S[2]? = some (some (.ref n))) (h3 : S[3]? = some (some (.p (.int w)))) (hn : h[n]? = some (penL a b c)) :
    ∃ S' a' b' c', wideM S h = some (.ok .nx, S', h.set n (penL a' b' c')) ∧ Stay S S' := by
  obtain ⟨ys, a', b', c', eM, lM, mM⟩ := mixed_ok 28 n h a b c (intsP 2 15) (by decide) hn
  have cA := chkA_at w1 w4
  unfold chkA at cA
  split at cA
  · rename_i A eA
    have hA : A.length = 2 ∨ A.length = 4 ∨ A.length = 8 ∨ A.length = 16 := by simpa [or_assoc] using cA
    have eA' : ∀ h, F 33 [.p (.int w)] h = some (.ok (.p (.lst A)), h) := F_at F33 (ds := [.int w]) rfl eA
    let g := h.set n (penL a' b' c')
    let Ms : List P := cutP ys none (some 5) ++ [.int A.length, .int (A.length + 2)]
    have hMs : ∀ d ∈ Ms, ∃ m, d = .int m ∧ Good m := fun d hd => by
      rcases List.mem_append.mp hd with z | z
      · have q := mM d (mem_cut z)
        unfold intsP at q
        obtain ⟨k, hk, e⟩ := List.mem_map.mp q
        have := List.mem_range.mp hk
        exact ⟨2 + k, e.symm, .inl ⟨by omega, by omega⟩⟩
      · rcases (show d = .int A.length ∨ d = .int (A.length + 2) by simpa using z) with y | y
        · exact ⟨_, y, .inl ⟨by omega, by omega⟩⟩
        · refine ⟨_, y, ?_⟩
          rcases hA with q | q | q | q <;> rw [q] <;> first | exact .inl ⟨by decide, by decide⟩ | exact .inr rfl
    have lM5 : (cutP ys none (some 5)).length ≤ 15 := by
      have q := len_cut (ds := ys) (lo := none) (hi := some 5)
      rw [lM] at q
      exact Nat.le_trans q (by decide)
    obtain ⟨S', e, st⟩ := manyM_ok w1 w4 Ms hMs g Ms.length 0 S rfl hl h3
    refine ⟨S', a', b', c', ?_, st⟩
    have it : iSeq (m2 fAdd (mCut (mAll (F 32) (aCons (mVar 2) (aCons (m2 (fun v w h => kRange [v, w] h) (mC (.int 2)) (mC (.int 17))) (aNil)))) (oNone) (oSome (mC (.int 5)))) (mAll kLstD (aCons (mAll kLen (aCons (mAll (F 33) (aCons (mVar 3) (aNil))) (aNil))) (aCons (m2 fAdd (mAll kLen (aCons (mAll (F 33) (aCons (mVar 3) (aNil))) (aNil))) (mC (.int 2))) (aNil))))) S h = some (.ok (.d Ms), g) := by
      have eM' : F 32 [.ref n, .p (.lst (intsP 2 15))] h = some (.ok (.p (.lst ys)), g) := eM
      have lt : (cutP ys none (some 5)).length + 2 ≤ 16777216 := by omega
      simp [iSeq, m2, mCut, mAll, aCons, aNil, mVar, mC, bnd, EV.ret, h2, h3, kRange, eM', oNone, oSome, fCut, kLen, seqV, seqP, eA', pI, fAdd, kLstD, EV.pures, lt, iSeqK, Ms]
    unfold wideM
    simp [sSeq, sFor, it, bndS, Itd.len, e, sNil, g]
  · cases cA
end Lw
end T22
section T23
set_option Elab.async false
set_option linter.all false
set_option maxRecDepth 100000
namespace Lw
open PySem PySem.Spec PyProof.Rows L2 EV
theorem cell_ok (ns : List Int) (k : Nat) (h : Hs) : ∃ v : Int, F 29 [.p (.scr (ns.map .int)), .p (.int k)] h = some (.ok (.p (.int v)), h) := by
  by_cases hk : k < ns.length
  · refine ⟨ns[k], ?_⟩
    have ix : ixN ns.length (k : Int) = some k := by
      unfold ixN
      rw [if_pos (by omega), if_pos (by omega)]; simp
    rw [F29]
    simp [frame, EV.pures, fnRun, b_law_cell_at, sSeq, sIf, sRet, sNil, bndS, bnd, EV.ret, mT, m2, mVar, mC, fIdx, seqV, seqP, mAll, aCons, aNil, kLen, pI, fLt, fI2, bT, EV.backV, hk, ix]
  · refine ⟨0, ?_⟩
    rw [F29]
    simp [frame, EV.pures, fnRun, b_law_cell_at, sSeq, sIf, sRet, sNil, bndS, bnd, EV.ret, mT, m2, mVar, mC, fIdx, seqV, seqP, mAll, aCons, aNil, kLen, pI, fLt, fI2, bT, EV.backV, hk]
theorem F30 : F 30 = fnRun 1 1 true (b_law_pen (FT 29)) := rfl
theorem pen_ok (v : Int) (h : Hs) : ∃ a b c : Int, F 30 [.p (.int v)] h = some (.ok (.ref h.length), h ++ [penL a b c]) := by
  refine ⟨if v - 1000000000000000000 > 0 then v - 1000000000000000000 else 0, v % 2147483629 + 1, 0, ?_⟩
  rw [F30]
  simp [fnRun, b_law_pen, sSeq, sRet, sNil, bndS, bnd, EV.ret, m2, mVar, mC, mAll, aCons, aNil, kMax2, kI2, pI, fSub, fPow, fAdd, fMod, fI2, kLstT, EV.pures, EV.backV]
structure Stay3 (S S' : Sl) : Prop where
  len : S'.length = S.length
  at' : ∀ i : Nat, i < 3 → S'[i]? = S[i]?
theorem widesM_ok (n : Nat) : ∀ (k i : Nat) (S : Sl) (h : Hs) (a b c : Int), k + i = 4 → S.length = 8 → S[2]? = some (some (.ref n)) → h[n]? = some (penL a b c) →
    ∃ S' a' b' c', forS (gN 3) wideM (.d (intsP 1 4)) k i S h = some (.ok .nx, S', h.set n (penL a' b' c')) ∧ Stay3 S S'
  | 0, i, S, h, a, b, c, hk, _, _, hn => by
    have e : (intsP 1 4)[i]? = none := List.getElem?_eq_none (by simp [intsP]; omega)
    have e2 : h.set n (penL a b c) = h := by
      refine List.ext_getElem? fun m => ?_
      by_cases z : n = m
      · subst z; rw [List.getElem?_set_self (List.getElem?_eq_some_iff.mp hn).1, hn]
      · rw [List.getElem?_set_ne z]
    exact ⟨S, a, b, c, by simp [forS, Itd.at, e, e2], rfl, fun _ _ => rfl⟩
  | k + 1, i, S, h, a, b, c, hk, hl, h2, hn => by
    have hnl : n < h.length := (List.getElem?_eq_some_iff.mp hn).1
    have e : (intsP 1 4)[i]? = some (.int (1 + i)) := by
      unfold intsP
      rw [List.getElem?_map, List.getElem?_range (by omega)]; rfl
    have s3 : (S.set 3 (some (.p (.int (1 + i)))))[3]? = some (some (.p (.int (1 + (i : Int))))) := List.getElem?_set_self (by omega)
    have s2 : (S.set 3 (some (.p (.int (1 + i)))))[2]? = some (some (.ref n)) := by rw [List.getElem?_set_ne (by decide)]; exact h2
    obtain ⟨S1, a1, b1, c1, e1, st1⟩ := wideM_ok (w := 1 + (i : Int)) (by omega) (by omega) _ h n a b c (by simp [hl]) s2 s3 hn
    have st : Stay3 S S1 := ⟨by rw [st1.len]; simp, fun j hj => by rw [st1.at' j (by omega), List.getElem?_set_ne (by omega)]⟩
    obtain ⟨S2, a2, b2, c2, e2, st2⟩ := widesM_ok n k (i + 1) S1 (h.set n (penL a1 b1 c1)) a1 b1 c1 (by omega) (by rw [st.len]; exact hl) (by rw [st.at' 2 (by decide)]; exact h2) (List.getElem?_set_self hnl)
    refine ⟨S2, a2, b2, c2, ?_, st2.len.trans st.len, fun j hj => (st2.at' j hj).trans (st.at' j hj)⟩
    simp only [forS, Itd.at, e, gN, e1, e2]
    rw [List.set_set]
theorem kM_ok (ns : List Int) (k : Nat) (S : Sl) (h : Hs) (hl : S.length = 8) (h0 : S[0]? = some (some (.p (.scr (ns.map .int))))) (h1 : S[1]? = some (some (.p (.int k)))) :
    ∃ S' p, kM S h = some (.ok .nx, S', h ++ [p]) ∧ S'.length = 8 ∧ S'[0]? = S[0]? := by
  obtain ⟨v, ev⟩ := cell_ok ns k h
  obtain ⟨a, b, c, ep⟩ := pen_ok v h
  let T : Sl := S.set 2 (some (.ref h.length))
  have t2 : T[2]? = some (some (.ref h.length)) := List.getElem?_set_self (by omega)
  obtain ⟨S', a', b', c', e, st⟩ := widesM_ok h.length 4 0 T (h ++ [penL a b c]) a b c rfl (by simp [T, hl]) t2 (by simp)
  refine ⟨S', penL a' b' c', ?_, by rw [st.len]; simp [T, hl], ?_⟩
  · have f1 : sSet 2 (mAll (F 30) (aCons (mAll (F 29) (aCons (mVar 0) (aCons (mVar 1) (aNil)))) (aNil))) S h = some (.ok .nx, T, h ++ [penL a b c]) := by
      simp [sSet, bndS, mAll, aCons, aNil, mVar, bnd, EV.ret, h0, h1, ev, ep, T]
    have rng : iRange2 (aCons (mC (.int 1)) (aCons (mC (.int 5)) (aNil))) T (h ++ [penL a b c]) = some (.ok (.d (intsP 1 4)), h ++ [penL a b c]) := by
      simp [iRange2, aCons, aNil, mC, bnd, EV.ret]
    have e4 : (intsP 1 4).length = 4 := by decide
    unfold kM
    simp only [sSeq, f1, sFor, rng, bndS, Itd.len, e4, e, sNil]
    simp
  · rw [st.at' 0 (by decide), List.getElem?_set_ne (by decide)]
theorem ksM_ok (ns : List Int) (n : Nat) : ∀ (k i : Nat) (S : Sl) (h : Hs), k + i = n → S.length = 8 → S[0]? = some (some (.p (.scr (ns.map .int)))) → ∃ S' h', forS (gN 1) kM (.d (intsP 0 n)) k i S h = some (.ok .nx, S', h')
  | 0, i, S, h, hk, _, _ => by
    have e : (intsP 0 n)[i]? = none := List.getElem?_eq_none (by simp [intsP]; omega)
    exact ⟨S, h, by simp [forS, Itd.at, e]⟩
  | k + 1, i, S, h, hk, hl, h0 => by
    have e : (intsP 0 n)[i]? = some (.int i) := by
      unfold intsP
      rw [List.getElem?_map, List.getElem?_range (by omega)]
      simp
    have s1 : (S.set 1 (some (.p (.int i))))[1]? = some (some (.p (.int (i : Int)))) := List.getElem?_set_self (by omega)
    have s0 : (S.set 1 (some (.p (.int i))))[0]? = some (some (.p (.scr (ns.map .int)))) := by rw [List.getElem?_set_ne (by decide)]; exact h0
    obtain ⟨S1, p, e1, l1, z1⟩ := kM_ok ns i _ h (by simp [hl]) s0 s1
    obtain ⟨S2, h2, e2⟩ := ksM_ok ns n k (i + 1) S1 (h ++ [p]) (by omega) l1 (z1.trans s0)
    exact ⟨S2, h2, by simp only [forS, Itd.at, e, gN, e1, e2]⟩
def S0 (ns : List Int) : Sl := [some (.p (.scr (ns.map .int))), none, none, none, none, none, none, none]
theorem few_ok (x : Int) (h0 : 0 ≤ x) : ∃ m : Nat, ((m : Int) = if (if (3 : Int) < x then (3 : Int) else x) > 1 then (if (3 : Int) < x then (3 : Int) else x) else 1) ∧ m ≤ 3 := by
  refine ⟨(if (if (3 : Int) < x then (3 : Int) else x) > 1 then (if (3 : Int) < x then (3 : Int) else x) else 1).toNat, ?_, ?_⟩ <;> (split <;> split <;> omega)
theorem rngA (ns : List Int) (x : Int) (hx : x = if (if (3 : Int) < ns.length then (3 : Int) else ns.length) > 1 then (if (3 : Int) < ns.length then (3 : Int) else ns.length) else 1) :
    (aCons (mAll kMax2 (aCons (mC (.int 1)) (aCons (mAll kMin2 (aCons (mAll kLen (aCons (mVar 0) (aNil))) (aCons (mC (.int 3)) (aNil)))) (aNil)))) (aNil)) (S0 ns) [] = some (.ok [.p (.int x)], []) := by
  subst hx
  simp [aCons, aNil, mC, mAll, mVar, bnd, EV.ret, S0, kLen, seqV, seqP, pI, kMin2, kMax2, kI2]
theorem rngB {a : MA} {S : Sl} {x : Int} (e : a S [] = some (.ok [.p (.int x)], [])) (h0 : -(2 ^ 62) ≤ x) (h1 : x < 2 ^ 62) : iRange1 a S [] = some (.ok (.d (intsP 0 x.toNat)), []) := by
  unfold iRange1
  rw [e]
  show (if -(2 ^ 62) ≤ x ∧ x < 2 ^ 62 then EV.ret (Itd.d (intsP 0 x.toNat)) [] else none) = _
  rw [if_pos ⟨h0, h1⟩]
  rfl
theorem rngC (m : Nat) (h : m ≤ 3) : -(2 ^ 62) ≤ (m : Int) ∧ (m : Int) < 2 ^ 62 :=
  ⟨Int.le_trans (by decide : -(2 ^ 62) ≤ (0 : Int)) (Int.natCast_nonneg m), Int.lt_of_le_of_lt (show (m : Int) ≤ 3 by omega) (by decide)⟩
theorem rng_ok (ns : List Int) (m : Nat) (hm : (m : Int) = if (if (3 : Int) < ns.length then (3 : Int) else ns.length) > 1 then (if (3 : Int) < ns.length then (3 : Int) else ns.length) else 1) (hm2 : m ≤ 3) :
    iRange1 (aCons (mAll kMax2 (aCons (mC (.int 1)) (aCons (mAll kMin2 (aCons (mAll kLen (aCons (mVar 0) (aNil))) (aCons (mC (.int 3)) (aNil)))) (aNil)))) (aNil)) (S0 ns) [] = some (.ok (.d (intsP 0 m)), []) :=
  rngB (rngA ns m hm) (rngC m hm2).1 (rngC m hm2).2
theorem lawBody_ok (ns : List Int) : ∃ S' h', b_law F (S0 ns) [] = some (.ok (.rt (.p (.bl true))), S', h') := by
  obtain ⟨m, hm, hm2⟩ := few_ok ns.length (by omega)
  obtain ⟨S', h', e⟩ := ksM_ok ns m m 0 (S0 ns) [] (Nat.add_zero m) rfl rfl
  have le : (intsP 0 m).length = m := by simp [intsP]
  refine ⟨S', h', ?_⟩
  rw [b_law_eq]
  simp only [sSeq, sFor, rng_ok ns m hm hm2, bndS, Itd.len, le, e]
  simp [sRet, bndS, mC, EV.ret]
theorem run_ok {b : MS} {x : Vl} {S' : Sl} {h' : Hs} (e : b ([some x] ++ List.replicate 7 none) [] = some (.ok (.rt (.p (.bl true))), S', h')) : fnRun 1 8 false b [x] [] = some (.ok (.p (.bl true)), []) := by
  simp only [fnRun, List.length_cons, List.length_nil, if_true, List.map_cons, List.map_nil]
  rw [show 8 - 1 = 7 from rfl, e]
  simp [EV.backV]
theorem law_true : LawTrue 30 := fun ns _ => by
  obtain ⟨S', h', e⟩ := lawBody_ok ns
  exact ⟨[], run_ok e⟩
end Lw
end T23
section T24
set_option Elab.async false
set_option linter.all false
set_option maxRecDepth 100000
open PySem PySem.W PyProof.Rows
set_option maxHeartbeats 0 in
theorem PySem.Challenge.cw_halfread_k30_single_codes_made_holds : PySem.Challenge.rw_halfread_k30_single_codes_made.Holds := by
  w_on; o_law; k_head; (case hw => w_witness2)
  k_fill
  refine L2.walk_of (l := PySem.Challenge.rw_halfread_k30_single_codes_made) (n := 63) (k := 2 * 30 + 2) (x := "_law_script") (CX := fun w => L2.CX PySem.Challenge.pw_halfread_k30_single_codes_made w) (sp := fun w => EV.spScript _) rfl (by decide) rfl ⟨rfl, by decide, by decide⟩ (fun w h Y => PySem.W.kIn_of Y) ?F (fun _ _ a ns hl _ hS => ⟨a, ns, rfl, hS, hl, fun _ => rfl⟩) (fun _ _ _ _ _ z => EV.cx_false z)
  case F =>
    intro w mg fa h KX G hmg
    refine' Lw.all_law 30 Lw.law_true KX G hmg ?aC0 ?pg0 ?hd0 ?po0 ?sa0 ?mk0 ?kc0 ?no0_0 ?no0_1 ?a0 ?l0 ?c0 ?k0 ?a1 ?l1 ?c1 ?k1 ?a2 ?l2 ?c2 ?k2 ?a3 ?fn3 ?l3 ?c3 ?k3 ?a4 ?ge4 ?ta4 ?re4 ?l4 ?c4 ?k4 ?a16 ?l16 ?c16 ?k16 ?a17 ?l17 ?c17 ?k17 ?a21 ?l21 ?c21 ?k21 ?a22 ?l22 ?c22 ?k22 ?a23 ?l23 ?c23 ?k23 ?a24 ?l24 ?c24 ?k24 ?a25 ?l25 ?c25 ?k25 ?a26 ?l26 ?c26 ?k26 ?a27 ?l27 ?c27 ?k27 ?a28 ?l28 ?c28 ?k28 ?a29 ?l29 ?c29 ?k29 ?a30 ?l30 ?c30 ?k30 ?a31 ?l31 ?c31 ?k31 ?a32 ?l32 ?c32 ?k32 ?a33 ?l33 ?c33 ?k33 ?a34 ?l34 ?c34 ?k34 ?a35 ?l35 ?c35 ?k35 ?a36 ?l36 ?c36 ?k36 ?a37 ?l37 ?c37 ?k37 ?a38 ?l38 ?c38 ?k38 ?kk_MOST_BITS_codes ?kk_MOST_BITS_making ?kk_MOST_VALUES ?kk_MOST_WORDS ?z_all ?z_bool ?z_enumerate ?z_int ?z_isinstance ?z_len ?z_list ?z_max ?z_min ?z_range ?z_set ?z_sorted ?z_sum ?z_tuple
    (case aC0 => k_is)
    (case pg0 => k_is)
    (case hd0 => k_is)
    (case po0 => k_is)
    (case sa0 => k_is)
    (case mk0 => k_is)
    (case kc0 => k_is)
    (case no0_0 => k_is)
    (case no0_1 => k_is)
    (case a0 => k_is)
    (case l0 => k_is)
    (case c0 => k_is)
    (case k0 => k_is)
    (case a1 => k_is)
    (case l1 => k_is)
    (case c1 => k_is)
    (case k1 => k_is)
    (case a2 => k_is)
    (case l2 => k_is)
    (case c2 => k_is)
    (case k2 => k_is)
    (case a3 => k_is)
    (case fn3 => k_is)
    (case l3 => k_is)
    (case c3 => k_is)
    (case k3 => k_is)
    (case a4 => k_is)
    (case ge4 => k_is)
    (case ta4 => k_is)
    (case re4 => k_is)
    (case l4 => k_is)
    (case c4 => k_is)
    (case k4 => k_is)
    (case a16 => k_is)
    (case l16 => k_is)
    (case c16 => k_is)
    (case k16 => k_is)
    (case a17 => k_is)
    (case l17 => k_is)
    (case c17 => k_is)
    (case k17 => k_is)
    (case a21 => k_is)
    (case l21 => k_is)
    (case c21 => k_is)
    (case k21 => k_is)
    (case a22 => k_is)
    (case l22 => k_is)
    (case c22 => k_is)
    (case k22 => k_is)
    (case a23 => k_is)
    (case l23 => k_is)
    (case c23 => k_is)
    (case k23 => k_is)
    (case a24 => k_is)
    (case l24 => k_is)
    (case c24 => k_is)
    (case k24 => k_is)
    (case a25 => k_is)
    (case l25 => k_is)
    (case c25 => k_is)
    (case k25 => k_is)
    (case a26 => k_is)
    (case l26 => k_is)
    (case c26 => k_is)
    (case k26 => k_is)
    (case a27 => k_is)
    (case l27 => k_is)
    (case c27 => k_is)
    (case k27 => k_is)
    (case a28 => k_is)
    (case l28 => k_is)
    (case c28 => k_is)
    (case k28 => k_is)
    (case a29 => k_is)
    (case l29 => k_is)
    (case c29 => k_is)
    (case k29 => k_is)
    (case a30 => k_is)
    (case l30 => k_is)
    (case c30 => k_is)
    (case k30 => k_is)
    (case a31 => k_is)
    (case l31 => k_is)
    (case c31 => k_is)
    (case k31 => k_is)
    (case a32 => k_is)
    (case l32 => k_is)
    (case c32 => k_is)
    (case k32 => k_is)
    (case a33 => k_is)
    (case l33 => k_is)
    (case c33 => k_is)
    (case k33 => k_is)
    (case a34 => k_is)
    (case l34 => k_is)
    (case c34 => k_is)
    (case k34 => k_is)
    (case a35 => k_is)
    (case l35 => k_is)
    (case c35 => k_is)
    (case k35 => k_is)
    (case a36 => k_is)
    (case l36 => k_is)
    (case c36 => k_is)
    (case k36 => k_is)
    (case a37 => k_is)
    (case l37 => k_is)
    (case c37 => k_is)
    (case k37 => k_is)
    (case a38 => k_is)
    (case l38 => k_is)
    (case c38 => k_is)
    (case k38 => k_is)
    (case kk_MOST_BITS_codes => k_is)
    (case kk_MOST_BITS_making => k_is)
    (case kk_MOST_VALUES => k_is)
    (case kk_MOST_WORDS => k_is)
    (case z_all => k_is)
    (case z_bool => k_is)
    (case z_enumerate => k_is)
    (case z_int => k_is)
    (case z_isinstance => k_is)
    (case z_len => k_is)
    (case z_list => k_is)
    (case z_max => k_is)
    (case z_min => k_is)
    (case z_range => k_is)
    (case z_set => k_is)
    (case z_sorted => k_is)
    (case z_sum => k_is)
    (case z_tuple => k_is)
end T24
