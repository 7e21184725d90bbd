import PyProof.Rows.All
import Wide.All
import OpenK.AllK
import Wide.FinOn
import HandS.ForMost
import HandS.TupAny
import HandS.Deep
import HandS.Conv
import KE.GoesMore
import HandS.SortOrd
import HandS.SortRule
import KE.KSortTup
import PySem.Challenge.RW_leftstanding_k04_kinds_and_late_rows
set_option Elab.async false
set_option linter.all false
set_option maxRecDepth 100000
set_option maxHeartbeats 8000000
/-! Data of a run: values as trees, what changes as numbered cells; the heap of the layer bears them. -/
namespace DD
open PySem L2

/-- a value: flat ones, tuples (and lists that nobody changes) as trees, what can change by its number -/
inductive D where
  | non | bl (b : Bool) | int (i : Int) | str (x : Str) | tup (ds : List D) | rol (ds : List D) | loc (n : Nat)
  deriving Inhabited
inductive Cell where
  | lst (ds : List D)
  | dic (kvs : List (Key × D))
  deriving Inhabited
abbrev Sto := List Cell
abbrev Env := List (Option D)

/-- a list that stays: locked, or of the written part -/
def RoL (K : PySem.W.Frag) (H : Hp) (a : Addr) (xs : List V) : Prop :=
  (∃ o, H a = some (.frz o (.lst xs))) ∨
    ∃ (o : Obj) (its : Array Value) (n : Nat), K.lookup a = some o ∧ o.cls = .type "list" ∧ o.dict = none ∧ o.data = .seq its n ∧ its.size ≤ sizeLine ∧ Vals xs its.toList
theorem RoL.sq {K : PySem.W.Frag} {H : Hp} {a : Addr} {xs : List V} (h : RoL K H a xs) : SqL K H a xs := by
  rcases h with h | h
  · exact .inl (.inr h)
  · exact .inr h

mutual
inductive Rep (K : PySem.W.Frag) (H : Hp) (m : List Addr) : D → V → Prop
  | non : Rep K H m .non .non
  | bl (b : Bool) : Rep K H m (.bl b) (.bl b)
  | int (i : Int) : Rep K H m (.int i) (.int i)
  | str (x : Str) : Rep K H m (.str x) (.str x)
  | tup {a : Addr} {vs : List V} {ds : List D} : SqT K H a vs → RepL K H m ds vs → Rep K H m (.tup ds) (.ref a)
  | rol {a : Addr} {vs : List V} {ds : List D} : RoL K H a vs → RepL K H m ds vs → Rep K H m (.rol ds) (.ref a)
  | loc {n : Nat} {a : Addr} : m[n]? = some a → Rep K H m (.loc n) (.ref a)
inductive RepL (K : PySem.W.Frag) (H : Hp) (m : List Addr) : List D → List V → Prop
  | nil : RepL K H m [] []
  | cons {d : D} {v : V} {ds : List D} {vs : List V} : Rep K H m d v → RepL K H m ds vs → RepL K H m (d :: ds) (v :: vs)
end

def CellOk (K : PySem.W.Frag) (H : Hp) (m : List Addr) (a : Addr) : Cell → Prop
  | .lst ds => ∃ vs, H a = some (.lst vs) ∧ RepL K H m ds vs
  | .dic kvs => ∃ ks, H a = some (.dK ks) ∧ Paired (fun (p : Key × D) (q : Key × V) => p.1 = q.1 ∧ Rep K H m p.2 q.2) kvs ks
structure StR (K : PySem.W.Frag) (H : Hp) (m : List Addr) (S : Sto) : Prop where
  len : m.length = S.length
  nd : m.Nodup
  ok : ∀ (n : Nat) (c : Cell) (a : Addr), S[n]? = some c → m[n]? = some a → CellOk K H m a c

structure Ext (H : Hp) (m : List Addr) (H' : Hp) (m' : List Addr) : Prop where
  pre : ∀ (n : Nat) (a : Addr), m[n]? = some a → m'[n]? = some a
  keep : ∀ (a : Addr) (o : HO), H a = some o → a ∉ m → H' a = some o
  new : ∀ a : Addr, a ∈ m' → a ∉ m → H a = none
theorem Ext.refl (H : Hp) (m : List Addr) : Ext H m H m := ⟨fun _ _ h => h, fun _ _ h _ => h, fun _ h h' => absurd h h'⟩
theorem Ext.mem {H H' : Hp} {m m' : List Addr} (e : Ext H m H' m') {a : Addr} (h : a ∈ m) : a ∈ m' := by
  obtain ⟨n, hn⟩ := List.mem_iff_getElem?.mp h
  exact List.mem_iff_getElem?.mpr ⟨n, e.pre n a hn⟩
theorem Ext.trans {H H1 H2 : Hp} {m m1 m2 : List Addr} (a : Ext H m H1 m1) (b : Ext H1 m1 H2 m2) : Ext H m H2 m2 := by
  refine ⟨fun n x h => b.pre n x (a.pre n x h), fun x o h hn => b.keep x o (a.keep x o h hn) fun h1 => ?_, fun x h hn => ?_⟩
  · rw [a.new x h1 hn] at h; cases h
  · by_cases h1 : x ∈ m1
    · exact a.new x h1 hn
    · cases q : H x with
      | none => rfl
      | some o =>
        have := b.new x h h1
        rw [a.keep x o q hn] at this; cases this

section
variable {K : PySem.W.Frag} {H H' : Hp} {m m' : List Addr} {S S' : Sto}
theorem CellOk.at {c : Cell} {a : Addr} (h : CellOk K H m a c) : ∃ o, H a = some o ∧ (∀ xs, o ≠ .tup xs) ∧ ∀ ob u, o ≠ .frz ob u := by
  cases c with
  | lst ds => obtain ⟨vs, e, _⟩ := h; exact ⟨_, e, (fun _ q => by cases q), (fun _ _ q => by cases q)⟩
  | dic kvs => obtain ⟨ks, e, _⟩ := h; exact ⟨_, e, (fun _ q => by cases q), (fun _ _ q => by cases q)⟩
theorem StR.cell (s : StR K H m S) {n : Nat} {a : Addr} (h : m[n]? = some a) : ∃ c, S[n]? = some c ∧ CellOk K H m a c := by
  have hn : n < m.length := (List.getElem?_eq_some_iff.mp h).1
  have hs : n < S.length := by rw [← s.len]; exact hn
  exact ⟨S[n], List.getElem?_eq_getElem hs, s.ok n _ a (List.getElem?_eq_getElem hs) h⟩
theorem StR.addr (s : StR K H m S) {n : Nat} {c : Cell} (h : S[n]? = some c) : ∃ a, m[n]? = some a ∧ CellOk K H m a c := by
  have hn : n < S.length := (List.getElem?_eq_some_iff.mp h).1
  have hs : n < m.length := by rw [s.len]; exact hn
  exact ⟨m[n], List.getElem?_eq_getElem hs, s.ok n c _ h (List.getElem?_eq_getElem hs)⟩
theorem StR.mem (s : StR K H m S) {a : Addr} (h : a ∈ m) : ∃ o, H a = some o ∧ (∀ xs, o ≠ .tup xs) ∧ ∀ ob u, o ≠ .frz ob u := by
  obtain ⟨n, hn⟩ := List.mem_iff_getElem?.mp h
  obtain ⟨c, _, q⟩ := s.cell hn
  exact q.at
theorem StR.out (s : StR K H m S) {a : Addr} (h : H a = none) : a ∉ m := fun q => by
  obtain ⟨o, e, _⟩ := s.mem q
  rw [h] at e; cases e
theorem Ext.sqT (s : StR K H m S) (e : Ext H m H' m') {a : Addr} {xs : List V} (h : SqT K H a xs) : SqT K H' a xs := by
  rcases h with (h | ⟨o, h⟩) | h
  · refine .inl (.inl (e.keep a _ h fun q => ?_))
    obtain ⟨o, e1, e2, _⟩ := s.mem q
    rw [h] at e1; cases e1; exact e2 _ rfl
  · refine .inl (.inr ⟨o, e.keep a _ h fun q => ?_⟩)
    obtain ⟨o', e1, _, e2⟩ := s.mem q
    rw [h] at e1; cases e1; exact e2 _ _ rfl
  · exact .inr h
theorem Ext.roL (s : StR K H m S) (e : Ext H m H' m') {a : Addr} {xs : List V} (h : RoL K H a xs) : RoL K H' a xs := by
  rcases h with ⟨o, h⟩ | h
  · refine .inl ⟨o, e.keep a _ h fun q => ?_⟩
    obtain ⟨o', e1, _, e2⟩ := s.mem q
    rw [h] at e1; cases e1; exact e2 _ _ rfl
  · exact .inr h
mutual
theorem Rep.go (hT : ∀ (a : Addr) (xs : List V), SqT K H a xs → SqT K H' a xs) (hL : ∀ (a : Addr) (xs : List V), RoL K H a xs → RoL K H' a xs) (hm : ∀ (n : Nat) (a : Addr), m[n]? = some a → m'[n]? = some a) : ∀ {d : D} {v : V}, Rep K H m d v → Rep K H' m' d v
  | _, _, .non => .non
  | _, _, .bl b => .bl b
  | _, _, .int i => .int i
  | _, _, .str x => .str x
  | _, _, .tup h r => .tup (hT _ _ h) (RepL.go hT hL hm r)
  | _, _, .rol h r => .rol (hL _ _ h) (RepL.go hT hL hm r)
  | _, _, .loc h => .loc (hm _ _ h)
theorem RepL.go (hT : ∀ (a : Addr) (xs : List V), SqT K H a xs → SqT K H' a xs) (hL : ∀ (a : Addr) (xs : List V), RoL K H a xs → RoL K H' a xs) (hm : ∀ (n : Nat) (a : Addr), m[n]? = some a → m'[n]? = some a) : ∀ {ds : List D} {vs : List V}, RepL K H m ds vs → RepL K H' m' ds vs
  | _, _, .nil => .nil
  | _, _, .cons h r => .cons (Rep.go hT hL hm h) (RepL.go hT hL hm r)
end
theorem Rep.mono (s : StR K H m S) (e : Ext H m H' m') {d : D} {v : V} (h : Rep K H m d v) : Rep K H' m' d v := Rep.go (fun _ _ => e.sqT s) (fun _ _ => e.roL s) e.pre h
theorem RepL.mono (s : StR K H m S) (e : Ext H m H' m') {ds : List D} {vs : List V} (h : RepL K H m ds vs) : RepL K H' m' ds vs := RepL.go (fun _ _ => e.sqT s) (fun _ _ => e.roL s) e.pre h
/-- more cells -/
theorem Rep.grow (hm : ∀ (n : Nat) (a : Addr), m[n]? = some a → m'[n]? = some a) {d : D} {v : V} (h : Rep K H m d v) : Rep K H m' d v := Rep.go (fun _ _ z => z) (fun _ _ z => z) hm h
theorem RepL.grow (hm : ∀ (n : Nat) (a : Addr), m[n]? = some a → m'[n]? = some a) {ds : List D} {vs : List V} (h : RepL K H m ds vs) : RepL K H m' ds vs := RepL.go (fun _ _ z => z) (fun _ _ z => z) hm h
/-- a list that is no cell changes -/
def Flex (o : HO) : Prop := (∀ xs, o ≠ .tup xs) ∧ ∀ ob u, o ≠ .frz ob u
theorem flex_lst (xs : List V) : Flex (.lst xs) := ⟨fun _ q => (by cases q), fun _ _ q => (by cases q)⟩
theorem flex_dK (xs : List (Key × V)) : Flex (.dK xs) := ⟨fun _ q => (by cases q), fun _ _ q => (by cases q)⟩
theorem sqT_off {b : Addr} {o0 : HO} {o : HO} (hb : H b = some o0) (fl : Flex o0) {a : Addr} {xs : List V} (h : SqT K H a xs) : SqT K (upd H b o) a xs := by
  rcases h with (h | ⟨o', h⟩) | h
  · refine .inl (.inl ?_)
    rw [upd_ne (ne_of h hb (Ne.symm (fl.1 _)))]; exact h
  · refine .inl (.inr ⟨o', ?_⟩)
    rw [upd_ne (ne_of h hb (Ne.symm (fl.2 _ _)))]; exact h
  · exact .inr h
theorem roL_off {b : Addr} {o0 : HO} {o : HO} (hb : H b = some o0) (fl : Flex o0) {a : Addr} {xs : List V} (h : RoL K H a xs) : RoL K (upd H b o) a xs := by
  rcases h with ⟨o', h⟩ | h
  · refine .inl ⟨o', ?_⟩
    rw [upd_ne (ne_of h hb (Ne.symm (fl.2 _ _)))]; exact h
  · exact .inr h
theorem Rep.off {b : Addr} {o0 : HO} {o : HO} (hb : H b = some o0) (fl : Flex o0) {d : D} {v : V} (h : Rep K H m d v) : Rep K (upd H b o) m d v := Rep.go (fun _ _ => sqT_off hb fl) (fun _ _ => roL_off hb fl) (fun _ _ z => z) h
theorem RepL.off {b : Addr} {o0 : HO} {o : HO} (hb : H b = some o0) (fl : Flex o0) {ds : List D} {vs : List V} (h : RepL K H m ds vs) : RepL K (upd H b o) m ds vs := RepL.go (fun _ _ => sqT_off hb fl) (fun _ _ => roL_off hb fl) (fun _ _ z => z) h
theorem RepL.length : ∀ {ds : List D} {vs : List V}, RepL K H m ds vs → ds.length = vs.length
  | _, _, .nil => rfl
  | _, _, .cons _ r => by rw [List.length_cons, List.length_cons, RepL.length r]
theorem RepL.get : ∀ {ds : List D} {vs : List V} {i : Nat} {d : D}, RepL K H m ds vs → ds[i]? = some d → ∃ v, vs[i]? = some v ∧ Rep K H m d v
  | _, _, _, _, .nil, h => by simp at h
  | _, _, 0, _, .cons r _, h => by simp at h; subst h; exact ⟨_, rfl, r⟩
  | _, _, i + 1, _, .cons _ t, h => by
    obtain ⟨v, h1, h2⟩ := RepL.get (i := i) t (by simpa using h)
    exact ⟨v, by simpa using h1, h2⟩
theorem RepL.app : ∀ {ds es : List D} {vs us : List V}, RepL K H m ds vs → RepL K H m es us → RepL K H m (ds ++ es) (vs ++ us)
  | _, _, _, _, .nil, s => s
  | _, _, _, _, .cons r t, s => .cons r (RepL.app t s)
theorem RepL.take : ∀ {ds : List D} {vs : List V} (n : Nat), RepL K H m ds vs → RepL K H m (ds.take n) (vs.take n)
  | _, _, 0, _ => .nil
  | _, _, _ + 1, .nil => .nil
  | _, _, n + 1, .cons r t => .cons r (RepL.take n t)
theorem RepL.drop : ∀ {ds : List D} {vs : List V} (n : Nat), RepL K H m ds vs → RepL K H m (ds.drop n) (vs.drop n)
  | _, _, 0, r => r
  | _, _, _ + 1, .nil => .nil
  | _, _, n + 1, .cons _ t => RepL.drop n t
theorem RepL.reverse : ∀ {ds : List D} {vs : List V}, RepL K H m ds vs → RepL K H m ds.reverse vs.reverse
  | _, _, .nil => .nil
  | _, _, .cons r t => by
    rw [List.reverse_cons, List.reverse_cons]
    exact (RepL.reverse t).app (.cons r .nil)
theorem RepL.set : ∀ {ds : List D} {vs : List V} {d : D} {v : V} (n : Nat), RepL K H m ds vs → Rep K H m d v → RepL K H m (ds.set n d) (vs.set n v)
  | _, _, _, _, _, .nil, _ => .nil
  | _, _, _, _, 0, .cons _ t, r => .cons r t
  | _, _, _, _, n + 1, .cons q t, r => .cons q (RepL.set n t r)
theorem RepL.ints : ∀ (ns : List Int), RepL K H m (ns.map D.int) (ns.map V.int)
  | [] => .nil
  | n :: r => .cons (.int n) (RepL.ints r)

theorem CellOk.mono (s : StR K H m S) (e : Ext H m H' m') {a : Addr} {c : Cell} (h : CellOk K H m a c) (ha : H' a = H a) : CellOk K H' m' a c := by
  cases c with
  | lst ds => obtain ⟨vs, e1, r⟩ := h; exact ⟨vs, ha.trans e1, r.mono s e⟩
  | dic kvs => obtain ⟨ks, e1, r⟩ := h; exact ⟨ks, ha.trans e1, Paired.mapP r fun _ _ z => ⟨z.1, z.2.mono s e⟩⟩

/-! ### a new object that is no cell -/
theorem Ext.new1 {p : Addr} {o : HO} (h : H p = none) : Ext H m (upd H p o) m :=
  ⟨fun _ _ e => e, fun a o' e _ => by rw [upd_ne (ne_of_none e h)]; exact e, fun _ a b => absurd a b⟩
theorem StR.new1 (s : StR K H m S) {p : Addr} {o : HO} (h : H p = none) : StR K (upd H p o) m S :=
  ⟨s.len, s.nd, fun n c a e1 e2 => (s.ok n c a e1 e2).mono s (Ext.new1 h) (upd_ne fun q => by
    obtain ⟨o', e3, _⟩ := (s.ok n c a e1 e2).at
    rw [q, h] at e3; cases e3)⟩
/-! ### a new cell -/
theorem Ext.newC (s : StR K H m S) {p : Addr} {o : HO} (h : H p = none) : Ext H m (upd H p o) (m ++ [p]) :=
  ⟨fun n a e => by rw [List.getElem?_append_left (List.getElem?_eq_some_iff.mp e).1]; exact e, fun a o' e _ => by rw [upd_ne (ne_of_none e h)]; exact e,
    fun a h1 h2 => by
      rcases List.mem_append.mp h1 with q | q
      · exact absurd q h2
      · rw [List.mem_singleton.mp q]; exact h⟩
theorem StR.newC (s : StR K H m S) {p : Addr} {o : HO} {c : Cell} (h : H p = none) (hc : CellOk K (upd H p o) (m ++ [p]) p c) : StR K (upd H p o) (m ++ [p]) (S ++ [c]) := by
  have hp : p ∉ m := s.out h
  refine ⟨by rw [List.length_append, List.length_append, s.len]; rfl, ?_, fun n c' a e1 e2 => ?_⟩
  · exact List.nodup_append.mpr ⟨s.nd, by simp, fun x hx y hy q => by
      rw [List.mem_singleton.mp hy] at q; rw [q] at hx; exact hp hx⟩
  · by_cases hn : n < m.length
    · rw [List.getElem?_append_left hn] at e2
      rw [List.getElem?_append_left (by rw [← s.len]; exact hn)] at e1
      refine (s.ok n c' a e1 e2).mono s (Ext.newC s h) (upd_ne fun q => ?_)
      rw [q] at e2
      exact hp (List.mem_iff_getElem?.mpr ⟨n, e2⟩)
    · have hm : n = m.length := by
        have := (List.getElem?_eq_some_iff.mp e2).1
        rw [List.length_append, List.length_singleton] at this
        omega
      have hs : n = S.length := hm.trans s.len
      rw [hm, List.getElem?_concat_length] at e2
      rw [hs, List.getElem?_concat_length] at e1
      cases e1; cases e2; exact hc
/-! ### a cell changed -/
theorem Ext.put (s : StR K H m S) {n : Nat} {a : Addr} {o : HO} (h : m[n]? = some a) : Ext H m (upd H a o) m :=
  ⟨fun _ _ e => e, fun b o' e hb => by
    rw [upd_ne fun q => ?_]; exact e
    rw [q] at hb; exact hb (List.mem_iff_getElem?.mpr ⟨n, h⟩), fun _ x y => absurd x y⟩
theorem StR.put (s : StR K H m S) {n : Nat} {a : Addr} {o : HO} {c : Cell} (h : m[n]? = some a) (hc : CellOk K (upd H a o) m a c) : StR K (upd H a o) m (S.set n c) := by
  refine ⟨by rw [List.length_set]; exact s.len, s.nd, fun k c' b e1 e2 => ?_⟩
  by_cases hk : k = n
  · subst hk
    rw [h] at e2; cases e2
    have hl : k < S.length := by rw [← s.len]; exact (List.getElem?_eq_some_iff.mp h).1
    rw [List.getElem?_set_self hl] at e1; cases e1
    exact hc
  · rw [List.getElem?_set_ne (Ne.symm hk)] at e1
    refine (s.ok k c' b e1 e2).mono s (Ext.put s h) (upd_ne fun q => ?_)
    rw [q] at e2
    exact hk (nd_ix s.nd e2 h)
end

section
variable {K : PySem.W.Frag} {H H' : Hp} {m m' : List Addr} {S S' : Sto}
theorem StR.off (s : StR K H m S) {b : Addr} {o0 : HO} {o : HO} (hb : H b = some o0) (fl : Flex o0) (hm : b ∉ m) : StR K (upd H b o) m S := by
  refine ⟨s.len, s.nd, fun n c a e1 e2 => ?_⟩
  have hne : a ≠ b := fun q => by
    rw [q] at e2
    exact hm (List.mem_iff_getElem?.mpr ⟨n, e2⟩)
  have h := s.ok n c a e1 e2
  cases c with
  | lst ds => obtain ⟨vs, e, r⟩ := h; exact ⟨vs, (upd_ne hne).trans e, r.off hb fl⟩
  | dic kvs => obtain ⟨ks, e, r⟩ := h; exact ⟨ks, (upd_ne hne).trans e, Paired.mapP r fun _ _ z => ⟨z.1, z.2.off hb fl⟩⟩
theorem CellOk.grow (hm : ∀ (n : Nat) (a : Addr), m[n]? = some a → m'[n]? = some a) {a : Addr} {c : Cell} (h : CellOk K H m a c) : CellOk K H m' a c := by
  cases c with
  | lst ds => obtain ⟨vs, e1, r⟩ := h; exact ⟨vs, e1, r.grow hm⟩
  | dic kvs => obtain ⟨ks, e1, r⟩ := h; exact ⟨ks, e1, Paired.mapP r fun _ _ z => ⟨z.1, z.2.grow hm⟩⟩
/-- a list becomes a cell -/
theorem StR.adopt (s : StR K H m S) {p : Addr} {cl : Cell} (hn : p ∉ m) (r : CellOk K H m p cl) : StR K H (m ++ [p]) (S ++ [cl]) := by
  have hm : ∀ (n : Nat) (a : Addr), m[n]? = some a → (m ++ [p])[n]? = some a := fun n a e => by rw [List.getElem?_append_left (List.getElem?_eq_some_iff.mp e).1]; exact e
  refine ⟨by rw [List.length_append, List.length_append, s.len]; rfl, ?_, fun n c' a e1 e2 => ?_⟩
  · exact List.nodup_append.mpr ⟨s.nd, by simp, fun x hx y hy q => by
      rw [List.mem_singleton.mp hy] at q; rw [q] at hx; exact hn hx⟩
  · by_cases hl : n < m.length
    · rw [List.getElem?_append_left hl] at e2
      rw [List.getElem?_append_left (by rw [← s.len]; exact hl)] at e1
      exact (s.ok n c' a e1 e2).grow hm
    · have hm' : n = m.length := by
        have := (List.getElem?_eq_some_iff.mp e2).1
        rw [List.length_append, List.length_singleton] at this
        omega
      have hs : n = S.length := hm'.trans s.len
      rw [hm', List.getElem?_concat_length] at e2
      rw [hs, List.getElem?_concat_length] at e1
      cases e1; cases e2; exact r.grow hm
end

/-! ### the frame's slots -/
def RepO (K : PySem.W.Frag) (H : Hp) (m : List Addr) : Option D → Option V → Prop
  | none, _ => True
  | some d, some v => Rep K H m d v
  | some _, none => False
abbrev EnvR (K : PySem.W.Frag) (H : Hp) (m : List Addr) (ρ : Env) (σ : St) : Prop := Paired (RepO K H m) ρ σ
section
variable {K : PySem.W.Frag} {H H' : Hp} {m m' : List Addr} {S S' : Sto} {ρ : Env} {σ : St}
theorem RepO.mono (s : StR K H m S) (e : Ext H m H' m') {x : Option D} {y : Option V} (h : RepO K H m x y) : RepO K H' m' x y := by
  cases x with
  | none => trivial
  | some d =>
    cases y with
    | none => exact h
    | some v => exact Rep.mono s e h
theorem EnvR.mono (s : StR K H m S) (e : Ext H m H' m') (h : EnvR K H m ρ σ) : EnvR K H' m' ρ σ := Paired.mapP h fun _ _ z => z.mono s e
theorem EnvR.get : ∀ {ρ : Env} {σ : St} {i : Nat} {d : D}, EnvR K H m ρ σ → ρ[i]? = some (some d) → ∃ v, σ[i]? = some (some v) ∧ Rep K H m d v
  | _, _, _, _, .nil, h => by simp at h
  | _, _, 0, _, .cons (b := y) r _, h => by
    simp at h; subst h
    cases y with
    | none => exact r.elim
    | some v => exact ⟨v, rfl, r⟩
  | _, _, i + 1, _, .cons _ t, h => by
    obtain ⟨v, h1, h2⟩ := EnvR.get (i := i) t (by simpa using h)
    exact ⟨v, by simpa using h1, h2⟩
theorem EnvR.set : ∀ {ρ : Env} {σ : St} {x : Option D} {y : Option V} (i : Nat), EnvR K H m ρ σ → RepO K H m x y → EnvR K H m (ρ.set i x) (σ.set i y)
  | _, _, _, _, _, .nil, _ => .nil
  | _, _, _, _, 0, .cons _ t, r => .cons r t
  | _, _, _, _, i + 1, .cons q t, r => .cons q (EnvR.set i t r)
end
end DD

/-! What a def is worth upon data; its call; its body. -/
namespace DD
open PySem PySem.Spec PyProof.Rows L2

abbrev Fn := List D → Sto → Option (D × Sto)
/-- a def keeps what g says, at most k calls deep, no repr being under way -/
structure FnG (P : Program) (w : World) (K : PySem.W.Frag) (mg : Str → Option Value) (base : Heap) (k : Nat) (f : Addr) (fd : FuncData) (ps : List Str) (g : Fn) : Prop where
  len : ∀ ds S r, g ds S = some r → ds.length = ps.length
  run : ∀ (A : Around) (outer : List PySem.Env) (s : Shared) (H : Hp) (args : Args) (us : List Value) (vs : List V) (ds : List D) (m : List Addr) (S S' : Sto) (d : D) (Q : VK),
    Room k A → A.guards = some [] → Env0 P w K mg base A outer s H → BindsTo s fd args (ps.zip us) → Vals vs us → RepL K H m ds vs → StR K H m S → g ds S = some (d, S') →
    (∀ v H' m', Ext H m H' m' → StR K H' m' S' → Rep K H' m' d v → Q v H') → codeAny (model P w) A (.call (.ref f) args) (CR CX0 outer P w H s Q E0) s
theorem FnG.mono {P : Program} {w : World} {K : PySem.W.Frag} {mg : Str → Option Value} {base : Heap} {j k : Nat} {f : Addr} {fd : FuncData} {ps : List Str} {g : Fn} (F : FnG P w K mg base j f fd ps g) (h : j ≤ k) : FnG P w K mg base k f fd ps g :=
  ⟨F.len, fun A outer s H args us vs ds m S S' d Q hr => F.run A outer s H args us vs ds m S S' d Q (hr.mono h)⟩

/-- the room of a body: so many calls, no repr under way -/
structure RG (k : Nat) (X : Cx) : Prop where
  room : Room k X.A
  gd : X.A.guards = some []
  calm : X.calm = true
theorem RG.mono {j k : Nat} {X : Cx} (r : RG k X) (h : j ≤ k) : RG j X := ⟨r.room.mono h, r.gd, r.calm⟩

section
variable {X : Cx} {k : Nat} {f : Addr} {fd : FuncData} {ps : List Str} {g : Fn} {x : Str} {p pos : Pos} {e : Expr} {es : List Expr} {t : TA}
/-- what a call asks of the values handed over -/
def rCall (K : PySem.W.Frag) (g : Fn) (vs : List V) (H : Hp) (Q : VK) : Prop := ∃ ds m S d S', RepL K H m ds vs ∧ StR K H m S ∧ g ds S = some (d, S') ∧
  ∀ v H' m', Ext H m H' m' → StR K H' m' S' → Rep K H' m' d v → Q v H'
theorem end_call {pins : List (Addr × Obj)} {σ : L2.St} {H : Hp} {s : Shared} {Q : VK} (I : Inv X pins σ H s) (r : Result) (s' : Shared) (hq : CR CX0 X.stack X.prog X.w H s Q E0 r s') :
    ∃ u, r = .ok (.ret u) ∧ EP X pins σ Q u s' := by
  match r, hq with
  | .ok (.ret u), hq => exact ⟨u, rfl, I.after hq⟩
theorem run_g {pins : List (Addr × Obj)} {σ : L2.St} {H : Hp} {s : Shared} {Q : VK} {us : List Value} {vs : List V} (F : FnG X.prog X.w X.K X.mg X.base k f fd ps g) (hr : RG k X) (hb : Binds X.K fd ps [])
    (I : Inv X pins σ H s) (r : Vals vs us) (h : rCall X.K g vs H Q) : wpAny (model X.prog X.w) X.A (call (.ref f) us) (EP X pins σ Q) X.xe s := by
  obtain ⟨ds, m, S, d, S', rd, st, hg, q⟩ := h
  have hl : (us ++ ([] : List Value)).length = ps.length := by rw [List.append_nil, ← r.length, ← rd.length]; exact F.len _ _ _ hg
  have hb' := hb s us I.kIn hl
  rw [List.append_nil] at hb'
  refine wpAny_call (codeAny_mono (F.run X.A X.stack s H ⟨us, []⟩ us vs ds m S S' d Q hr.room hr.gd I.env0 hb' r rd st hg q) fun r s' hq => ?_)
  obtain ⟨u, rfl, z⟩ := end_call I r s' hq
  exact z
theorem pe_g (F : FnG X.prog X.w X.K X.mg X.base k f fd ps g) (hr : RG k X) (hg : Gl X x) (hm : X.mg x = some (.ref f)) (hk : PySem.W.keepIn X.K (.ref f) = true) (hb : Binds X.K fd ps [])
    (ha : PA X (e :: es) t) (hdb : (x == ("__debug__" : Str)) = false := by decide) (he : starEach (e :: es) X.env = (false, eval e X.env) :: starEach es X.env := by rfl) (hpl : (backTo pos (starEach es X.env)).any (·.1) = false := by rfl) :
    PE X (.Call (.Name x p) (e :: es) [] pos) (fun σ H Q => t σ H fun vs H1 => rCall X.K g vs H1 Q) := by
  refine ⟨fun pins s σ H Q I h => wpAny_Call_Name_kw (ld_glob I hg hm ?_ hdb)⟩
  refine PySem.W.callWith_K (h₀ := X.base) I.ok.mod.kin hk (thn (ha.run pos pins s σ H _ I h) fun us s1 hs => ?_) he hpl
  obtain ⟨vs, H1, I1, r, q⟩ := hs
  exact ⟨I1.kIn, run_g F hr hb I1 r q⟩
theorem pe_g0 (F : FnG X.prog X.w X.K X.mg X.base k f fd ps g) (hr : RG k X) (hg : Gl X x) (hm : X.mg x = some (.ref f)) (hk : PySem.W.keepIn X.K (.ref f) = true) (hb : Binds X.K fd ps [])
    (hdb : (x == ("__debug__" : Str)) = false := by decide) : PE X (.Call (.Name x p) [] [] pos) (fun σ H Q => rCall X.K g [] H Q) :=
  ⟨fun pins s σ H Q I h => wpAny_Call_Name_kw (ld_glob I hg hm (PySem.W.callWith_K0 I.kIn hk (run_g (us := []) F hr hb I .nil h)) hdb)⟩

/-- keywords: in which order the parameters stand -/
structure KwOk (K : PySem.W.Frag) (fd : FuncData) (ps ks : List Str) (n : Nat) (perm : List Nat) : Prop where
  to : ∀ (s : Shared) (us ws : List Value), K.In s.heap → us.length = n → ws.length = ks.length → BindsTo s fd ⟨us, ks.zip ws⟩ (ps.zip (us ++ perm.map fun i => ws.getD i .none))
  lt : ∀ i ∈ perm, i < ks.length
theorem vals_perm {zs : List V} {ws : List Value} (r : Vals zs ws) : ∀ (perm : List Nat), (∀ i ∈ perm, i < zs.length) → Vals (perm.map fun i => zs.getD i .non) (perm.map fun i => ws.getD i .none)
  | [], _ => .nil
  | i :: l, h => by
    refine .cons ?_ (vals_perm r l fun j hj => h j (List.mem_cons_of_mem _ hj))
    have hi := h i List.mem_cons_self
    obtain ⟨u, h1, h2⟩ := r.get (List.getElem?_eq_getElem hi)
    show L2.RelV (zs.getD i .non) (ws.getD i .none)
    rw [List.getD_eq_getElem?_getD, List.getD_eq_getElem?_getD, h1, List.getElem?_eq_getElem hi]
    exact h2
theorem run_gk {pins : List (Addr × Obj)} {σ : L2.St} {H : Hp} {s : Shared} {Q : VK} {us ws : List Value} {vs zs : List V} {ks : List Str} {n : Nat} {perm : List Nat} (F : FnG X.prog X.w X.K X.mg X.base k f fd ps g) (hr : RG k X) (hb : KwOk X.K fd ps ks n perm)
    (I : Inv X pins σ H s) (r : Vals vs us) (rz : Vals zs ws) (hn : vs.length = n) (hz : zs.length = ks.length) (h : rCall X.K g (vs ++ perm.map fun i => zs.getD i .non) H Q) : wpAny (model X.prog X.w) X.A (call (.ref f) us (ks.zip ws)) (EP X pins σ Q) X.xe s := by
  obtain ⟨ds, m, S, d, S', rd, st, hg, q⟩ := h
  have rr := r.append (vals_perm rz perm fun i hi => by rw [hz]; exact hb.lt i hi)
  refine wpAny_call (codeAny_mono (F.run X.A X.stack s H ⟨us, ks.zip ws⟩ _ _ ds m S S' d Q hr.room hr.gd I.env0 (hb.to s us ws I.kIn (by rw [← r.length]; exact hn) (by rw [← rz.length]; exact hz)) rr rd st hg q) fun r s' hq => ?_)
  obtain ⟨u, rfl, z⟩ := end_call I r s' hq
  exact z
/-- f(a, .., k = b, ..) -/
theorem pe_gk {ks : List Str} {n : Nat} {perm : List Nat} {kws : List Keyword} {tk : TA} (F : FnG X.prog X.w X.K X.mg X.base k f fd ps g) (hr : RG k X) (hg : Gl X x) (hm : X.mg x = some (.ref f)) (hk : PySem.W.keepIn X.K (.ref f) = true) (hb : KwOk X.K fd ps ks n perm)
    (ha : PA X (e :: es) t) (hkw : PK X kws tk) (hall : (backToKw pos (keywordEach kws X.env)).all (·.1.isSome) = true := by rfl) (hks : (backToKw pos (keywordEach kws X.env)).filterMap (·.1) = ks := by rfl)
    (hdb : (x == ("__debug__" : Str)) = false := by decide) (he : starEach (e :: es) X.env = (false, eval e X.env) :: starEach es X.env := by rfl)
    (hpl : ((backTo pos (starEach (e :: es) X.env)).any (·.1) || (backToKw pos (keywordEach kws X.env)).any (·.1.isNone)) = false := by rfl) :
    PE X (.Call (.Name x p) (e :: es) kws pos) (fun σ H Q => t σ H fun vs H1 => tk σ H1 fun zs H2 => vs.length = n ∧ zs.length = ks.length ∧ rCall X.K g (vs ++ perm.map fun i => zs.getD i .non) H2 Q) := by
  refine ⟨fun pins s σ H Q I h => wpAny_Call_Name_kw (ld_glob I hg hm ?_ hdb)⟩
  refine PySem.W.callWith_KW (h₀ := X.base) I.ok.mod.kin hk hall (thn (ha.run pos pins s σ H _ I h) fun us s1 hs => ?_) hpl he
  obtain ⟨vs, H1, I1, r, q⟩ := hs
  refine thn (hkw.run pos pins s1 σ H1 _ I1 q) fun ws s2 hs2 => ?_
  obtain ⟨zs, H2, I2, rz, q1, q2, q3⟩ := hs2
  rw [hks]
  exact ⟨I2.kIn, run_gk F hr hb I2 r rz q1 q2 q3⟩
/-- f(k = b, ..) -/
theorem pe_gk0 {ks : List Str} {perm : List Nat} {kws : List Keyword} {tk : TA} (F : FnG X.prog X.w X.K X.mg X.base k f fd ps g) (hr : RG k X) (hg : Gl X x) (hm : X.mg x = some (.ref f)) (hk : PySem.W.keepIn X.K (.ref f) = true) (hb : KwOk X.K fd ps ks 0 perm)
    (hkw : PK X kws tk) (hall : (backToKw pos (keywordEach kws X.env)).all (·.1.isSome) = true := by rfl) (hks : (backToKw pos (keywordEach kws X.env)).filterMap (·.1) = ks := by rfl)
    (hdb : (x == ("__debug__" : Str)) = false := by decide)
    (hpl : ((backTo pos (starEach [] X.env)).any (·.1) || (backToKw pos (keywordEach kws X.env)).any (·.1.isNone)) = false := by rfl) :
    PE X (.Call (.Name x p) [] kws pos) (fun σ H Q => tk σ H fun zs H2 => zs.length = ks.length ∧ rCall X.K g (perm.map fun i => zs.getD i .non) H2 Q) := by
  refine ⟨fun pins s σ H Q I h => wpAny_Call_Name_kw (ld_glob I hg hm ?_ hdb)⟩
  refine PySem.W.callWith_KW0 (h₀ := X.base) I.ok.mod.kin hk hall (thn (hkw.run pos pins s σ H _ I h) fun ws s2 hs2 => ?_) hpl
  obtain ⟨zs, H2, I2, rz, q2, q3⟩ := hs2
  rw [hks]
  exact ⟨I2.kIn, run_gk (us := []) F hr hb I2 .nil rz rfl q2 q3⟩
end

/-! ### a body -/
inductive Out where
  | nx (ρ : Env) (S : Sto) | rt (d : D) (S : Sto) | bk (ρ : Env) (S : Sto) | ct (ρ : Env) (S : Sto)
abbrev SM := Env → Sto → Option Out
def OutOk (K : PySem.W.Frag) (H : Hp) (m : List Addr) (o : Out) (E : Ends) : Prop :=
  match o with
  | .nx ρ S => ∀ σ H' m', Ext H m H' m' → StR K H' m' S → EnvR K H' m' ρ σ → E.nx σ H'
  | .rt d S => ∀ v H' m', Ext H m H' m' → StR K H' m' S → Rep K H' m' d v → E.rt v H'
  | .bk ρ S => ∀ σ H' m', Ext H m H' m' → StR K H' m' S → EnvR K H' m' ρ σ → E.bk σ H'
  | .ct ρ S => ∀ σ H' m', Ext H m H' m' → StR K H' m' S → EnvR K H' m' ρ σ → E.ct σ H'
theorem OutOk.mono {K : PySem.W.Frag} {H H1 : Hp} {m m1 : List Addr} {o : Out} {E : Ends} (x : Ext H m H1 m1) (h : OutOk K H m o E) : OutOk K H1 m1 o E := by
  cases o with
  | nx ρ S => exact fun σ H' m' e => h σ H' m' (x.trans e)
  | rt d S => exact fun σ H' m' e => h σ H' m' (x.trans e)
  | bk ρ S => exact fun σ H' m' e => h σ H' m' (x.trans e)
  | ct ρ S => exact fun σ H' m' e => h σ H' m' (x.trans e)
/-- a statement's reading upon data -/
def tS (K : PySem.W.Frag) (f : SM) : TS := fun E σ H => ∃ ρ S m o, EnvR K H m ρ σ ∧ StR K H m S ∧ f ρ S = some o ∧ OutOk K H m o E

/-- the whole def: n parameters, N names -/
def mkFn (n N : Nat) (body : SM) : Fn := fun ds S => if ds.length = n then
    match body (ds.map some ++ List.replicate (N - n) none) S with
    | some (.rt d S') => some (d, S')
    | some (.nx _ S') => some (.non, S')
    | _ => none
  else none
theorem envR_start {K : PySem.W.Frag} {H : Hp} {m : List Addr} : ∀ {ds : List D} {vs : List V} (j : Nat), RepL K H m ds vs → EnvR K H m (ds.map some ++ List.replicate j none) (vs.map some ++ List.replicate j none)
  | _, _, 0, .nil => .nil
  | _, _, j + 1, .nil => .cons trivial (envR_start j .nil)
  | _, _, j, .cons r t => .cons r (envR_start j t)
theorem fn_g {P : Program} {w : World} {K : PySem.W.Frag} {mg : Str → Option Value} {base : Heap} {x qual : Str} {st : Stmt} {f : Addr} {fd : FuncData} {N ps : List Str} {k : Nat} {body : SM} (F : Fun K x qual st f fd) (Sc : FnScope N ps (defScope st)) {n NN : Nat} (hn : ps.length = n) (hN : N.length = NN)
    (hbody : ∀ (cdv : Value) (A : Around) (outer : List PySem.Env) (s : Shared) (H : Hp), RG k (cxOf CX0 P w K mg base N qual (defScope st) f cdv A outer s H E0).nox →
      PSs (cxOf CX0 P w K mg base N qual (defScope st) f cdv A outer s H E0).nox (defBody st) (tS K body)) : FnG P w K mg base (k + 1) f fd ps (mkFn n NN body) := by
  obtain ⟨oc, od, kV, doc, pm, an, cdv, ct, osl, rfl, lk, hcd⟩ := F.ex
  subst hn; subst hN
  have key : ∀ ds S r, mkFn ps.length N.length body ds S = some r → ds.length = ps.length := fun ds S r h => by
    unfold mkFn at h
    by_cases hl : ds.length = ps.length
    · exact hl
    · rw [if_neg hl] at h; cases h
  refine ⟨key, fun A outer s H args us vs ds m S S' d Q hr hgd e0 hb r rd sr hg q => ?_⟩
  have hd : ds.length = ps.length := key _ _ _ hg
  have hl : vs.length = ps.length := by rw [← rd.length]; exact hd
  have KX : K.In s.heap := e0.mod.kin.keeps fun b o e => (e0.bs b o e).1
  have lim : s.heap.NoLimit := e0.mod.nolimit.keeps fun b o e => (e0.bs b o e).1
  refine codeAny_call_function hr.depth (KX _ _ lk) rfl Sc.co Sc.gen rfl (PySem.W.codeRec_of KX hcd) (hb _ _ _ _ ?_)
  refine wpAny_newFunctionEnv_cells Sc.kind ?_ fun env he s1 x => ?_
  · intro y hy
    have hm := (List.of_mem_zip (a := y.1) (b := y.2) hy).1
    exact (Sc.par y.1 hm).imp id fun q => ⟨q, PySem.W.cellsFrom_some _ _ _ (.inl q)⟩
  subst he
  refine ⟨lim.keeps x.toInCall.keep, codeAny_func ?_⟩
  have I := inv_start (CX := CX0) (E := E0) Sc hr.hd e0 hl r x
  have ht := (hbody cdv A outer s H ⟨hr.deeper _, hgd, rfl⟩).nox
  unfold mkFn at hg
  rw [if_pos hd] at hg
  have hs : L2.start N vs = vs.map some ++ List.replicate (N.length - ps.length) none := by unfold L2.start; rw [hl]
  have eR : EnvR K H m (ds.map some ++ List.replicate (N.length - ps.length) none) (L2.start N vs) := by rw [hs]; exact envR_start _ rd
  have goal : tS K body { nx := fun _ H' => Q .non H', rt := Q } (L2.start N vs) H := by
    cases hbd : body (ds.map some ++ List.replicate (N.length - ps.length) none) S with
    | none => rw [hbd] at hg; cases hg
    | some o =>
      rw [hbd] at hg
      refine ⟨_, S, m, o, eR, sr, hbd, ?_⟩
      cases o with
      | rt d' S1 => cases hg; exact fun v H' m' e st rp => q v H' m' e st rp
      | nx ρ S1 => cases hg; exact fun σ H' m' e st _ => q .non H' m' e st .non
      | bk ρ S1 => cases hg
      | ct ρ S1 => cases hg
  refine wpAny_mono (ht.run [] s1 (L2.start N vs) H _ I goal) (fun fl s' hs => ?_) fun e s' hs => hs
  match fl, hs with
  | .ret u, ⟨v, σ', H', J, rv, q⟩ => exact ⟨v, H', J.os, J.bare, J.base, J.hok, rv, q⟩
  | .next, ⟨σ', H', J, q⟩ => exact ⟨.non, H', J.os, J.bare, J.base, J.hok, rfl, q⟩
  | .brk, ⟨_, _, _, q⟩ => exact False.elim q
  | .cont, ⟨_, _, _, q⟩ => exact False.elim q

/-! ### the end of a law -/
theorem law_end {l : PySem.W.OpenLaw} {n k : Nat} {q : Program} {loose : List Str} {XP : (Str → Option Value) → Heap → Prop} {YP : World → Heap → Prop} {d : DefRec} {K : Params → PySem.W.Frag} {g : Fn} {x : Str}
    (hn : l.most = some n) (hn2 : n ≤ sizeLine) (hdf : d.params.defaults = []) (hr : Room k callerA)
    (hY : ∀ (w : World) (h : Heap), YP w h → (K w.params).In h)
    (F : ∀ (w : World) (mg : Str → Option Value) (fa : Addr) (h : Heap), (K w.params).In h → h.Ns mainGlobals mg → mg d.name = some (.ref fa) →
      ∃ fd : FuncData, (∀ (s : Shared) (u : Value), BindsTo s fd ⟨[u], []⟩ [(x, u)]) ∧
        ∀ base : Heap, (K w.params).In base → base.Ns mainGlobals mg → FnG l.prog w (K w.params) mg base k fa fd [x] g)
    (hg : ∀ ns : List Int, ns.length ≤ n → ∃ S, g [.rol (ns.map D.int)] [] = some (.bl true, S)) :
    PySem.W.WalkO q loose XP YP l.row.toRowW d [] (fun f vs => PySem.call f vs) := by
  refine Att.attach_call hn hdf fun w s₀ s₁ mg mb fa o pm cd doc a vs ns G Y ho hd hcd hmg hobj hints hlen hgens => ?_
  have KX := hY w _ Y
  obtain ⟨fd, hb, hF⟩ := F w mg fa _ KX G.T.g hmg
  obtain ⟨Sn, hgn⟩ := hg ns hlen
  have rv := vals_ints hints
  have lenV := hints.length
  have core : ∀ H : Hp, Only H → RoL (K w.params) H a (ns.map V.int) → HOk l.prog w H s₁.heap → (∀ b, H b ≠ none → b = a) → (H a ≠ none → (K w.params).lookup a = none) →
      codeAny (model l.prog w) callerA (.call (.ref fa) ⟨[.ref a], []⟩) (fun r s' => r = .ok (.ret (.bool true)) ∧ OldK s₁.heap s'.heap ∧ s'.os = s₁.os ∧ AllBare s'.gens) s₁ := by
    intro H hO hS hok hA hK
    have track : ∀ b : Addr, H b = none ∨ b = a := fun b => by
      cases q : H b with
      | none => exact .inl rfl
      | some u => exact .inr (hA b (by rw [q]; simp))
    have noA : ∀ {b : Addr} {o : Obj} {es : Array DictEntry} {ep : Nat}, s₁.heap.get? b = some o → o.data = .dict es ep → H b = none := fun {b o es ep} e dd => (track b).resolve_right fun z => by
      rw [z, hobj] at e; cases e
      cases dd
    have nsK : ∀ {b : Addr} {m : Str → Option Value}, s₁.heap.Ns b m → (hidT s₁.heap H).Ns b m := fun {b m} hm => by
      obtain ⟨o, es, ep, e, dd, r⟩ := hm
      exact ⟨o, es, ep, hidT_get e (noA e dd), dd, r⟩
    have hKb : (K w.params).In (hidT s₁.heap H) := fun b o e => hidT_get (KX b o e) (by
      cases q : H b with
      | none => rfl
      | some u =>
        have z := hA b (by rw [q]; simp)
        subst z
        rw [hK (by rw [q]; simp)] at e; cases e)
    have e0 : Env0 l.prog w (K w.params) mg (hidT s₁.heap H) callerA [] s₁ H := by
      refine ⟨rfl, ⟨hKb, nsK G.T.g, ⟨mb, nsK G.T.b, G.T.builtins⟩, ?_⟩, fun b o e => of_hidT e, Nat.le_of_eq (hidT_size _ _), trivial, (fun b hb => by cases hb), hok, .of_eq hgens⟩
      obtain ⟨mc, h1, h2⟩ := G.T.nolimit
      exact ⟨mc, nsK h1, h2⟩
    have sr : StR (K w.params) H [] [] := ⟨rfl, List.nodup_nil, fun n c a e _ => by simp at e⟩
    refine codeAny_mono ((hF _ hKb (nsK G.T.g)).run callerA [] s₁ H ⟨[.ref a], []⟩ [.ref a] [.ref a] [.rol (ns.map D.int)] [] [] Sn (.bl true) (fun v _ => v = .bl true) hr rfl e0 (hb s₁ (.ref a)) (.cons rfl .nil) (.cons (.rol hS (RepL.ints ns)) .nil) sr hgn
      fun v H' m' _ _ rp => by cases rp; rfl) fun r s' h => ?_
    match r, h with
    | .ok (.ret u), ⟨v, H', os, bare, un, hok', r', q⟩ =>
      have q' : v = .bl true := q
      subst q'
      obtain rfl : u = Value.bool true := r'
      refine ⟨rfl, OldK.of_keep fun b o e => ?_, os, bare⟩
      rcases hO b with z | ⟨ob, xs, z⟩
      · exact un.keep b o e z (by intro z; cases z) (by simp)
      · obtain ⟨e1, _⟩ := hok b _ z
        obtain ⟨e2, _⟩ := hok' b _ (un.frzs b ob _ z)
        rw [e] at e1; cases e1
        exact e2
  have sz : ns.length ≤ sizeLine := Nat.le_trans hlen hn2
  cases hk : (K w.params).lookup a with
  | some o =>
    have e := KX a o hk
    rw [hobj] at e
    cases e
    exact core (fun _ => none) (fun _ => .inl rfl) (.inr ⟨_, vs.toArray, _, hk, rfl, rfl, rfl, by rw [List.size_toArray, lenV]; exact sz, by simpa using rv⟩) (fun b u z => by cases z) (fun b z => absurd rfl z) fun z => absurd rfl z
  | none =>
    have sing : ∀ b : Addr, b ≠ a → upd (fun _ => none) a (HO.frz { cls := .type "list", data := .seq vs.toArray } (.lst (ns.map V.int))) b = none := fun b h => upd_ne h
    refine core (upd (fun _ => none) a (.frz { cls := .type "list", data := .seq vs.toArray } (.lst (ns.map V.int)))) (fun b => ?_) (.inl ⟨_, upd_same⟩) (fun b u z => ?_) (fun b z => ?_) fun _ => hk
    · by_cases h : b = a
      · subst h; exact .inr ⟨_, _, upd_same⟩
      · exact .inl (sing b h)
    · by_cases h : b = a
      · subst h; rw [upd_same] at z; cases z
        exact ⟨hobj, by rw [List.length_map]; exact sz, vs, _, rv, hobj⟩
      · rw [sing b h] at z; cases z
    · by_cases h : b = a
      · exact h
      · exact absurd (sing b h) z
end DD

/-! Expressions upon data. -/
namespace DD
open PySem PySem.Spec PyProof.Rows L2

abbrev Ex := Env → Sto → Option (D × Sto)
abbrev As := Env → Sto → Option (List D × Sto)
abbrev Tx := Env → Sto → Option (Bool × Sto)
def tE (K : PySem.W.Frag) (f : Ex) : TE := fun σ H Q => ∃ ρ S m d S', EnvR K H m ρ σ ∧ StR K H m S ∧ f ρ S = some (d, S') ∧ ∀ v H' m', Ext H m H' m' → StR K H' m' S' → Rep K H' m' d v → Q v H'
def tA (K : PySem.W.Frag) (f : As) : TA := fun σ H Q => ∃ ρ S m ds S', EnvR K H m ρ σ ∧ StR K H m S ∧ f ρ S = some (ds, S') ∧ ∀ vs H' m', Ext H m H' m' → StR K H' m' S' → RepL K H' m' ds vs → Q vs H'
def tT (K : PySem.W.Frag) (f : Tx) : TT := fun σ H Q => ∃ ρ S m b S', EnvR K H m ρ σ ∧ StR K H m S ∧ f ρ S = some (b, S') ∧ ∀ H' m', Ext H m H' m' → StR K H' m' S' → Q b H'
abbrev DE (X : Cx) (e : Expr) (f : Ex) : Prop := PE X e (tE X.K f)
structure DA (X : Cx) (es : List Expr) (f : As) : Prop where
  pa : PA X es (tA X.K f)
  len : ∀ ρ S ds S', f ρ S = some (ds, S') → ds.length = es.length
abbrev DT (X : Cx) (e : Expr) (f : Tx) : Prop := PT X e (tT X.K f)
abbrev DW (X : Cx) (e : Expr) (f : Tx) : Prop := PW X e (tT X.K f)

theorem pew {X : Cx} {e : Expr} {t t' : TE} (h : PE X e t) (w : ∀ σ H Q, t' σ H Q → t σ H Q) : PE X e t' := ⟨fun pins s σ H Q I q => h.run pins s σ H Q I (w σ H Q q)⟩
theorem ptw {X : Cx} {e : Expr} {t t' : TT} (h : PT X e t) (w : ∀ σ H Q, t' σ H Q → t σ H Q) : PT X e t' := ⟨fun pins s σ H Q I q => h.run pins s σ H Q I (w σ H Q q)⟩
theorem pww {X : Cx} {e : Expr} {t t' : TT} (h : PW X e t) (w : ∀ σ H Q, t' σ H Q → t σ H Q) : PW X e t' := ⟨fun wh pins s σ H Q I q => h.run wh pins s σ H Q I (w σ H Q q)⟩
theorem paw {X : Cx} {e : List Expr} {t t' : TA} (h : PA X e t) (w : ∀ σ H Q, t' σ H Q → t σ H Q) : PA X e t' := ⟨fun pos pins s σ H Q I q => h.run pos pins s σ H Q I (w σ H Q q)⟩
theorem pkw {X : Cx} {e : List Keyword} {t t' : TA} (h : PK X e t) (w : ∀ σ H Q, t' σ H Q → t σ H Q) : PK X e t' := ⟨fun pos pins s σ H Q I q => h.run pos pins s σ H Q I (w σ H Q q)⟩

theorem obind {α β : Type} {o : Option α} {f : α → Option β} {b : β} (h : o.bind f = some b) : ∃ a, o = some a ∧ f a = some b := by
  cases o with
  | none => cases h
  | some a => exact ⟨a, rfl, h⟩

/-! ### names, constants -/
def mV (i : Nat) : Ex := fun ρ S => match ρ[i]? with | some (some d) => some (d, S) | _ => none
def mC (d : D) : Ex := fun _ S => some (d, S)
section
variable {X : Cx} {e a b c : Expr} {es : List Expr} {fa fb fc : Ex} {ga : As} {ta tb : Tx} {pos : Pos}
theorem de_v (i : Nat) {x : Str} (hN : X.N[i]? = some x := by rfl) (hv : Vis X.env.scope x := by first | exact Or.inl rfl | exact Or.inr (Or.inl rfl) | exact Or.inr (Or.inr rfl)) (hd : (x == ("__debug__" : Str)) = false := by decide)
    (hcd : (x == ("__classdict__" : Str)) = false := by decide) : DE X (.Name x pos) (mV i) := pew (pe_var hN hv hd hcd) fun σ H Q h => by
  obtain ⟨ρ, S, m, d, S', E, st, hf, k⟩ := h
  unfold mV at hf
  cases hr : ρ[i]? with
  | none => rw [hr] at hf; cases hf
  | some o =>
    rw [hr] at hf
    cases o with
    | none => cases hf
    | some d' =>
      cases hf
      obtain ⟨v, h1, h2⟩ := E.get hr
      exact ⟨v, h1, k v H m (Ext.refl H m) st h2⟩
theorem de_const {v : V} {d : D} (h : PE X e (tC v)) (r : ∀ H m, Rep X.K H m d v) : DE X e (mC d) := pew h fun σ H Q h => by
  obtain ⟨ρ, S, m, d', S', E, st, hf, k⟩ := h
  cases hf
  exact k v H m (Ext.refl H m) st (r H m)
theorem de_int {i : Int} {j : Nat} : DE X (.Constant (.int i) j pos) (mC (.int i)) := de_const pe_int fun _ _ => .int i
theorem de_bl {i : Bool} {j : Nat} : DE X (.Constant (.bool i) j pos) (mC (.bl i)) := de_const pe_bl fun _ _ => .bl i
theorem de_str {i : Str} {j : Nat} : DE X (.Constant (.str i) j pos) (mC (.str i)) := de_const pe_str fun _ _ => .str i
theorem de_non {j : Nat} : DE X (.Constant .none j pos) (mC .non) := de_const pe_non fun _ _ => .non
/-- a module's constant -/
theorem de_glI {x : Str} {u : Value} {i : Int} (hg : Gl X x) (hm : X.mg x = some u) (r : RelV (.int i) u) (hd : (x == ("__debug__" : Str)) = false := by decide) : DE X (.Name x pos) (mC (.int i)) := de_const (pe_glob hg hm r hd) fun _ _ => .int i
theorem de_glS {x : Str} {u : Value} {i : Str} (hg : Gl X x) (hm : X.mg x = some u) (r : RelV (.str i) u) (hd : (x == ("__debug__" : Str)) = false := by decide) : DE X (.Name x pos) (mC (.str i)) := de_const (pe_glob hg hm r hd) fun _ _ => .str i

/-! ### arguments -/
def mNil : As := fun _ S => some ([], S)
def mCons (f : Ex) (g : As) : As := fun ρ S => (f ρ S).bind fun p => (g ρ p.2).bind fun q => some (p.1 :: q.1, q.2)
theorem da_nil : DA X [] mNil := ⟨paw pa_nil fun σ H Q h => by
  obtain ⟨ρ, S, m, d', S', E, st, hf, k⟩ := h
  cases hf
  exact k [] H m (Ext.refl H m) st .nil, fun ρ S ds S' h => by cases h; rfl⟩
theorem da_cons (ha : DE X e fa) (hr : DA X es ga) (hs : starEach (e :: es) X.env = (false, eval e X.env) :: starEach es X.env := by rfl) : DA X (e :: es) (mCons fa ga) := ⟨paw (pa_cons ha hr.pa hs) fun σ H Q h => by
  obtain ⟨ρ, S, m, d', S', E, st, hf, k⟩ := h
  obtain ⟨p, h1, hf⟩ := obind hf
  obtain ⟨q, h2, hf⟩ := obind hf
  cases hf
  exact ⟨ρ, S, m, p.1, p.2, E, st, h1, fun v H1 m1 x1 s1 r1 => ⟨ρ, p.2, m1, q.1, q.2, E.mono st x1, s1, h2, fun vs H2 m2 x2 s2 r2 => k (v :: vs) H2 m2 (x1.trans x2) s2 (.cons (r1.mono s1 x2) r2)⟩⟩,
  fun ρ S ds S' h => by
    obtain ⟨p, h1, hf⟩ := obind h
    obtain ⟨q, h2, hf⟩ := obind hf
    cases hf
    rw [List.length_cons, List.length_cons, hr.len _ _ _ _ h2]⟩
/-- keywords -/
structure DK (X : Cx) (es : List Keyword) (f : As) : Prop where
  pk : PK X es (tA X.K f)
  len : ∀ ρ S ds S', f ρ S = some (ds, S') → ds.length = es.length
theorem dk_nil : DK X [] mNil := ⟨pkw pk_nil fun σ H Q h => by
  obtain ⟨ρ, S, m, d', S', E, st, hf, k⟩ := h
  cases hf
  exact k [] H m (Ext.refl H m) st .nil, fun ρ S ds S' h => by cases h; rfl⟩
theorem dk_cons {nm : Option Str} {kpos : Pos} {kws : List Keyword} (ha : DE X e fa) (hr : DK X kws ga) : DK X (⟨nm, e, kpos⟩ :: kws) (mCons fa ga) := ⟨pkw (pk_cons ha hr.pk) fun σ H Q h => by
  obtain ⟨ρ, S, m, d', S', E, st, hf, k⟩ := h
  obtain ⟨p, h1, hf⟩ := obind hf
  obtain ⟨q, h2, hf⟩ := obind hf
  cases hf
  exact ⟨ρ, S, m, p.1, p.2, E, st, h1, fun v H1 m1 x1 s1 r1 => ⟨ρ, p.2, m1, q.1, q.2, E.mono st x1, s1, h2, fun vs H2 m2 x2 s2 r2 => k (v :: vs) H2 m2 (x1.trans x2) s2 (.cons (r1.mono s1 x2) r2)⟩⟩,
  fun ρ S ds S' h => by
    obtain ⟨p, h1, hf⟩ := obind h
    obtain ⟨q, h2, hf⟩ := obind hf
    cases hf
    rw [List.length_cons, List.length_cons, hr.len _ _ _ _ h2]⟩

/-! ### calls of the text's own defs -/
def mCall (g : Fn) (as : As) : Ex := fun ρ S => (as ρ S).bind fun p => g p.1 p.2
theorem de_call {k : Nat} {f : Addr} {fd : FuncData} {ps : List Str} {g : Fn} {x : Str} {p : Pos} (F : FnG X.prog X.w X.K X.mg X.base k f fd ps g) (hr : RG k X) (hg : Gl X x) (hm : X.mg x = some (.ref f)) (hk : PySem.W.keepIn X.K (.ref f) = true) (hb : Binds X.K fd ps [])
    (ha : DA X (e :: es) ga) (hdb : (x == ("__debug__" : Str)) = false := by decide) (he : starEach (e :: es) X.env = (false, eval e X.env) :: starEach es X.env := by rfl) (hpl : (backTo pos (starEach es X.env)).any (·.1) = false := by rfl) :
    DE X (.Call (.Name x p) (e :: es) [] pos) (mCall g ga) := pew (pe_g F hr hg hm hk hb ha.pa hdb he hpl) fun σ H Q h => by
  obtain ⟨ρ, S, m, d', S', E, st, hf, q⟩ := h
  obtain ⟨p, h1, hf⟩ := obind hf
  exact ⟨ρ, S, m, p.1, p.2, E, st, h1, fun vs H1 m1 x1 s1 r1 => ⟨p.1, m1, p.2, d', S', r1, s1, hf, fun v H2 m2 x2 s2 r2 => q v H2 m2 (x1.trans x2) s2 r2⟩⟩
theorem repL_perm {K : PySem.W.Frag} {H : Hp} {m : List Addr} {qs : List D} {zs : List V} (r : RepL K H m qs zs) : ∀ (perm : List Nat), (∀ i ∈ perm, i < qs.length) → RepL K H m (perm.map fun i => qs.getD i .non) (perm.map fun i => zs.getD i .non)
  | [], _ => .nil
  | i :: l, h => by
    refine .cons ?_ (repL_perm r l fun j hj => h j (List.mem_cons_of_mem _ hj))
    obtain ⟨u, h1, h2⟩ := r.get (List.getElem?_eq_getElem (h i List.mem_cons_self))
    show Rep K H m (qs.getD i .non) (zs.getD i .non)
    rw [List.getD_eq_getElem?_getD, List.getD_eq_getElem?_getD, h1, List.getElem?_eq_getElem (h i List.mem_cons_self)]
    exact h2
def mCallK (g : Fn) (perm : List Nat) (as ks : As) : Ex := fun ρ S => (as ρ S).bind fun p => (ks ρ p.2).bind fun q => g (p.1 ++ perm.map fun i => q.1.getD i .non) q.2
theorem de_callK0 {k : Nat} {f : Addr} {fd : FuncData} {ps ks : List Str} {perm : List Nat} {kws : List Keyword} {g : Fn} {x : Str} {p : Pos} (F : FnG X.prog X.w X.K X.mg X.base k f fd ps g) (hr : RG k X) (hg : Gl X x) (hm : X.mg x = some (.ref f)) (hk : PySem.W.keepIn X.K (.ref f) = true)
    (hb : KwOk X.K fd ps ks 0 perm) (ha : DK X kws ga) (hl : kws.length = ks.length := by rfl) (hall : (backToKw pos (keywordEach kws X.env)).all (·.1.isSome) = true := by rfl) (hks : (backToKw pos (keywordEach kws X.env)).filterMap (·.1) = ks := by rfl)
    (hdb : (x == ("__debug__" : Str)) = false := by decide) (hpl : ((backTo pos (starEach [] X.env)).any (·.1) || (backToKw pos (keywordEach kws X.env)).any (·.1.isNone)) = false := by rfl) :
    DE X (.Call (.Name x p) [] kws pos) (mCallK g perm mNil ga) := pew (pe_gk0 F hr hg hm hk hb ha.pk hall hks hdb hpl) fun σ H Q h => by
  obtain ⟨ρ, S, m, d', S', E, st, hf, q⟩ := h
  obtain ⟨p, h1, hf⟩ := obind hf
  cases h1
  obtain ⟨p, h1, hf⟩ := obind hf
  have hz : p.1.length = ks.length := (ha.len _ _ _ _ h1).trans hl
  exact ⟨ρ, S, m, p.1, p.2, E, st, h1, fun vs H1 m1 x1 s1 r1 => ⟨r1.length.symm.trans hz, _, m1, p.2, d', S', repL_perm r1 perm fun i hi => by rw [hz]; exact hb.lt i hi, s1, hf, fun v H2 m2 x2 s2 r2 => q v H2 m2 (x1.trans x2) s2 r2⟩⟩
theorem de_callK {k n : Nat} {f : Addr} {fd : FuncData} {ps ks : List Str} {perm : List Nat} {kws : List Keyword} {gk : As} {g : Fn} {x : Str} {p : Pos} (F : FnG X.prog X.w X.K X.mg X.base k f fd ps g) (hr : RG k X) (hg : Gl X x) (hm : X.mg x = some (.ref f)) (hk : PySem.W.keepIn X.K (.ref f) = true)
    (hb : KwOk X.K fd ps ks n perm) (ha : DA X (e :: es) ga) (hak : DK X kws gk) (hn : (e :: es).length = n := by rfl) (hl : kws.length = ks.length := by rfl) (hall : (backToKw pos (keywordEach kws X.env)).all (·.1.isSome) = true := by rfl) (hks : (backToKw pos (keywordEach kws X.env)).filterMap (·.1) = ks := by rfl)
    (hdb : (x == ("__debug__" : Str)) = false := by decide) (he : starEach (e :: es) X.env = (false, eval e X.env) :: starEach es X.env := by rfl) (hpl : ((backTo pos (starEach (e :: es) X.env)).any (·.1) || (backToKw pos (keywordEach kws X.env)).any (·.1.isNone)) = false := by rfl) :
    DE X (.Call (.Name x p) (e :: es) kws pos) (mCallK g perm ga gk) := pew (pe_gk F hr hg hm hk hb ha.pa hak.pk hall hks hdb he hpl) fun σ H Q h => by
  obtain ⟨ρ, S, m, d', S', E, st, hf, q⟩ := h
  obtain ⟨p0, h0, hf⟩ := obind hf
  obtain ⟨p, h1, hf⟩ := obind hf
  have hz : p.1.length = ks.length := (hak.len _ _ _ _ h1).trans hl
  refine ⟨ρ, S, m, p0.1, p0.2, E, st, h0, fun vs H1 m1 x1 s1 r1 => ⟨ρ, p0.2, m1, p.1, p.2, E.mono st x1, s1, h1, fun zs H2 m2 x2 s2 r2 => ?_⟩⟩
  refine ⟨r1.length.symm.trans ((ha.len _ _ _ _ h0).trans hn), r2.length.symm.trans hz, _, m2, p.2, d', S', (r1.mono s1 x2).app (repL_perm r2 perm fun i hi => by rw [hz]; exact hb.lt i hi), s2, hf, fun v H3 m3 x3 s3 r3 => q v H3 m3 ((x1.trans x2).trans x3) s3 r3⟩

/-! ### displays -/
def mTup (as : As) : Ex := fun ρ S => (as ρ S).bind fun p => some (.tup p.1, p.2)
def mLst (as : As) : Ex := fun ρ S => (as ρ S).bind fun p => some (.loc p.2.length, p.2 ++ [.lst p.1])
theorem de_tup {x1 : Nat} (ha : DA X es ga) (hl : es.length ≤ 1000 := by decide) : DE X (.Tuple es x1 pos) (mTup ga) := pew (pe_tup ha.pa) fun σ H Q h => by
  obtain ⟨ρ, S, m, d', S', E, st, hf, q⟩ := h
  obtain ⟨p, h1, hf⟩ := obind hf
  cases hf
  refine ⟨ρ, S, m, p.1, p.2, E, st, h1, fun vs H1 m1 x1 s1 r1 => ⟨?_, fun l hl' => ?_⟩⟩
  · rw [← r1.length, ha.len _ _ _ _ h1]; exact Nat.le_trans hl (by decide)
  · have x2 : Ext H1 m1 (upd H1 l (.tup vs)) m1 := Ext.new1 hl'
    exact q _ _ m1 (x1.trans x2) (s1.new1 hl') (.tup (SqT.of upd_same) (r1.mono s1 x2))
theorem newL {K : PySem.W.Frag} {H : Hp} {m : List Addr} {S : Sto} {ds : List D} {vs : List V} {p : Addr} (s : StR K H m S) (r : RepL K H m ds vs) (hp : H p = none) :
    Ext H m (upd H p (.lst vs)) (m ++ [p]) ∧ StR K (upd H p (.lst vs)) (m ++ [p]) (S ++ [.lst ds]) ∧ Rep K (upd H p (.lst vs)) (m ++ [p]) (.loc S.length) (.ref p) := by
  have x := Ext.newC (o := HO.lst vs) s hp
  refine ⟨x, s.newC hp ⟨vs, upd_same, r.mono s x⟩, .loc ?_⟩
  rw [← s.len, List.getElem?_concat_length]
theorem de_lst (ha : DA X es ga) (hl : es.length ≤ 1000 := by decide) : DE X (.List es pos) (mLst ga) := pew (pe_lst ha.pa) fun σ H Q h => by
  obtain ⟨ρ, S, m, d', S', E, st, hf, q⟩ := h
  obtain ⟨p, h1, hf⟩ := obind hf
  cases hf
  refine ⟨ρ, S, m, p.1, p.2, E, st, h1, fun vs H1 m1 x1 s1 r1 => ⟨?_, fun l hl' => ?_⟩⟩
  · rw [← r1.length, ha.len _ _ _ _ h1]; exact Nat.le_trans hl (by decide)
  · obtain ⟨a1, a2, a3⟩ := newL s1 r1 hl'
    exact q _ _ _ (x1.trans a1) a2 a3

/-! ### two-place operations -/
abbrev Op2 := D → D → Sto → Option (D × Sto)
def OpD (K : PySem.W.Frag) (r : R2) (g : Op2) : Prop := ∀ (H : Hp) (m : List Addr) (S : Sto) (x y : V) (d e d' : D) (S' : Sto) (Q : VK), StR K H m S → Rep K H m d x → Rep K H m e y → g d e S = some (d', S') →
  (∀ v H' m', Ext H m H' m' → StR K H' m' S' → Rep K H' m' d' v → Q v H') → r x y H Q
def m2 (g : Op2) (fa fb : Ex) : Ex := fun ρ S => (fa ρ S).bind fun p => (fb ρ p.2).bind fun q => g p.1 q.1 q.2
theorem use2 {K : PySem.W.Frag} {r : R2} {g : Op2} (o : OpD K r g) {σ : L2.St} {H : Hp} {Q : VK} (h : tE K (m2 g fa fb) σ H Q) : tOp r (tE K fa) (tE K fb) σ H Q := by
  obtain ⟨ρ, S, m, d', S', E, st, hf, q⟩ := h
  obtain ⟨p1, h1, hf⟩ := obind hf
  obtain ⟨p2, h2, hf⟩ := obind hf
  exact ⟨ρ, S, m, p1.1, p1.2, E, st, h1, fun v H1 m1 x1 s1 r1 => ⟨ρ, p1.2, m1, p2.1, p2.2, E.mono st x1, s1, h2, fun u H2 m2 x2 s2 r2 =>
    o H2 m2 p2.2 v u p1.1 p2.1 d' S' Q s2 (r1.mono s1 x2) r2 hf fun w H3 m3 x3 s3 r3 => q w H3 m3 ((x1.trans x2).trans x3) s3 r3⟩⟩
theorem de_op {op : Operator} {r : R2} {g : Op2} (hr : OpR X (binaryOp op) r) (o : OpD X.K r g) (ha : DE X a fa) (hb : DE X b fb) : DE X (.BinOp a op b pos) (m2 g fa fb) := pew (pe_op hr ha hb) fun _ _ _ h => use2 o h
theorem de_cmp {op : CmpOp} {r : R2} {g : Op2} (hr : OpR X (compareOp op) r) (o : OpD X.K r g) (ha : DE X a fa) (hb : DE X b fb) (hm : behindInMarks op b = false := by rfl) : DE X (.Compare a [op] [b] pos) (m2 g fa fb) := pew (pe_cmpR hr ha hb hm) fun _ _ _ h => use2 o h
theorem de_ix' {r : R2} {g : Op2} (hr : IxR X r) (o : OpD X.K r g) (ha : DE X a fa) (hb : DE X b fb) (hs : PlainIx b := by exact fun _ _ => rfl) : DE X (.Subscript a b pos) (m2 g fa fb) := pew (pe_ix hr ha hb hs) fun _ _ _ h => use2 o h

theorem OpD.or1 {K : PySem.W.Frag} {r r' : R2} {g : Op2} (h : OpD K r g) : OpD K (fun x y H Q => r x y H Q ∨ r' x y H Q) g := fun H m S x y d e d' S' Q a b c f k => .inl (h H m S x y d e d' S' Q a b c f k)

/-! ### tests -/
/-- a value that is a truth value -/
def mB (f : Ex) : Tx := fun ρ S => (f ρ S).bind fun p => match p.1 with | .bl b => some (b, p.2) | _ => none
theorem useB {K : PySem.W.Frag} {σ : L2.St} {H : Hp} {Q : Bool → Hp → Prop} (h : tT K (mB fa) σ H Q) : tE K fa σ H fun x H' => ∃ k, x = .bl k ∧ Q k H' := by
  obtain ⟨ρ, S, m, b, S', E, st, hf, q⟩ := h
  obtain ⟨p, h1, hf⟩ := obind hf
  cases hp : p.1 with
  | bl b' =>
    rw [hp] at hf; cases hf
    exact ⟨ρ, S, m, p.1, p.2, E, st, h1, fun v H1 m1 x1 s1 r1 => ⟨b, by rw [hp] at r1; cases r1; rfl, q H1 m1 x1 s1⟩⟩
  | _ => rw [hp] at hf; cases hf
theorem dt_val (ha : DE X e fa) (he : ∀ whole, isTrue e X.env whole = (do let v ← whole; standAt e.pos; holding [v] (truthy v)) := by intro _; rfl) : DT X e (mB fa) := ptw (pt_val ha he) fun σ H Q h => useB h
theorem dt_cmp {op : CmpOp} {r : R2} {g : Op2} (hr : OpR X (compareOp op) r) (o : OpD X.K r g) (ha : DE X a fa) (hb : DE X b fb) (hm : behindInMarks op b = false := by rfl) : DT X (.Compare a [op] [b] pos) (mB (m2 g fa fb)) :=
  ptw (pt_cmpR hr ha hb hm) fun σ H Q h => use2 o (useB h)
def mNot (f : Tx) : Tx := fun ρ S => (f ρ S).bind fun p => some (!p.1, p.2)
def mAnd (f g : Tx) : Tx := fun ρ S => (f ρ S).bind fun p => if p.1 = true then g ρ p.2 else some (false, p.2)
def mOr (f g : Tx) : Tx := fun ρ S => (f ρ S).bind fun p => if p.1 = true then some (true, p.2) else g ρ p.2
theorem dt_not (ha : DT X a ta) : DT X (.UnaryOp .Not a pos) (mNot ta) := ptw (pt_not ha) fun σ H Q h => by
  obtain ⟨ρ, S, m, b, S', E, st, hf, q⟩ := h
  obtain ⟨p, h1, hf⟩ := obind hf
  cases hf
  exact ⟨ρ, S, m, p.1, p.2, E, st, h1, fun H1 m1 x1 s1 => q H1 m1 x1 s1⟩
theorem dw_and1 (ha : DT X a ta) : DW X (.BoolOp .And [a] pos) ta := pw_and1 ha
theorem dw_or1 (ha : DT X a ta) : DW X (.BoolOp .Or [a] pos) ta := pw_or1 ha
theorem dw_and {rest : List Expr} (ha : DT X a ta) (hb : DW X (.BoolOp .And (b :: rest) pos) tb) : DW X (.BoolOp .And (a :: b :: rest) pos) (mAnd ta tb) := pww (pw_and ha hb) fun σ H Q h => by
  obtain ⟨ρ, S, m, c, S', E, st, hf, q⟩ := h
  obtain ⟨p, h1, hf⟩ := obind hf
  refine ⟨ρ, S, m, p.1, p.2, E, st, h1, fun H1 m1 x1 s1 => ?_⟩
  cases hp : p.1 with
  | true => rw [hp] at hf; exact iteT ⟨ρ, p.2, m1, c, S', E.mono st x1, s1, hf, fun H2 m2 x2 s2 => q H2 m2 (x1.trans x2) s2⟩
  | false => rw [hp] at hf; cases hf; exact iteF (q H1 m1 x1 s1)
theorem dw_or {rest : List Expr} (ha : DT X a ta) (hb : DW X (.BoolOp .Or (b :: rest) pos) tb) : DW X (.BoolOp .Or (a :: b :: rest) pos) (mOr ta tb) := pww (pw_or ha hb) fun σ H Q h => by
  obtain ⟨ρ, S, m, c, S', E, st, hf, q⟩ := h
  obtain ⟨p, h1, hf⟩ := obind hf
  refine ⟨ρ, S, m, p.1, p.2, E, st, h1, fun H1 m1 x1 s1 => ?_⟩
  cases hp : p.1 with
  | false => rw [hp] at hf; exact iteF ⟨ρ, p.2, m1, c, S', E.mono st x1, s1, hf, fun H2 m2 x2 s2 => q H2 m2 (x1.trans x2) s2⟩
  | true => rw [hp] at hf; cases hf; exact iteT (q H1 m1 x1 s1)
theorem dt_w (h : DW X e ta) : DT X e ta := h.pt
/-- and, or, not as values, of truth values -/
def mAndV (f g : Ex) : Ex := fun ρ S => (f ρ S).bind fun p => match p.1 with | .bl true => g ρ p.2 | .bl false => some (.bl false, p.2) | _ => none
def mOrV (f g : Ex) : Ex := fun ρ S => (f ρ S).bind fun p => match p.1 with | .bl false => g ρ p.2 | .bl true => some (.bl true, p.2) | _ => none
def mNotV (f : Ex) : Ex := fun ρ S => (f ρ S).bind fun p => match p.1 with | .bl b => some (.bl (!b), p.2) | _ => none
theorem de_one {op : PySem.BoolOp} (h : DE X a fa) : DE X (.BoolOp op [a] pos) fa := pe_one h
theorem de_and {rest : List Expr} (ha : DE X a fa) (hb : DE X (.BoolOp .And (b :: rest) pos) fb) : DE X (.BoolOp .And (a :: b :: rest) pos) (mAndV fa fb) := pew (pe_and ha hb) fun σ H Q h => by
  obtain ⟨ρ, S, m, d, S', E, st, hf, q⟩ := h
  obtain ⟨p, h1, hf⟩ := obind hf
  refine ⟨ρ, S, m, p.1, p.2, E, st, h1, fun v H1 m1 x1 s1 r1 => ?_⟩
  match hp : p.1 with
  | .bl true => rw [hp] at hf r1; cases r1; exact ⟨true, rfl, iteT ⟨ρ, p.2, m1, d, S', E.mono st x1, s1, hf, fun w H2 m2 x2 s2 r2 => q w H2 m2 (x1.trans x2) s2 r2⟩⟩
  | .bl false => rw [hp] at hf r1; cases r1; cases hf; exact ⟨false, rfl, iteF (q _ H1 m1 x1 s1 (.bl false))⟩
  | .non => rw [hp] at hf; cases hf
  | .int _ => rw [hp] at hf; cases hf
  | .str _ => rw [hp] at hf; cases hf
  | .tup _ => rw [hp] at hf; cases hf
  | .rol _ => rw [hp] at hf; cases hf
  | .loc _ => rw [hp] at hf; cases hf
theorem de_or {rest : List Expr} (ha : DE X a fa) (hb : DE X (.BoolOp .Or (b :: rest) pos) fb) : DE X (.BoolOp .Or (a :: b :: rest) pos) (mOrV fa fb) := pew (pe_or ha hb) fun σ H Q h => by
  obtain ⟨ρ, S, m, d, S', E, st, hf, q⟩ := h
  obtain ⟨p, h1, hf⟩ := obind hf
  refine ⟨ρ, S, m, p.1, p.2, E, st, h1, fun v H1 m1 x1 s1 r1 => ?_⟩
  match hp : p.1 with
  | .bl false => rw [hp] at hf r1; cases r1; exact ⟨false, rfl, iteF ⟨ρ, p.2, m1, d, S', E.mono st x1, s1, hf, fun w H2 m2 x2 s2 r2 => q w H2 m2 (x1.trans x2) s2 r2⟩⟩
  | .bl true => rw [hp] at hf r1; cases r1; cases hf; exact ⟨true, rfl, iteT (q _ H1 m1 x1 s1 (.bl true))⟩
  | .non => rw [hp] at hf; cases hf
  | .int _ => rw [hp] at hf; cases hf
  | .str _ => rw [hp] at hf; cases hf
  | .tup _ => rw [hp] at hf; cases hf
  | .rol _ => rw [hp] at hf; cases hf
  | .loc _ => rw [hp] at hf; cases hf
theorem de_not (ha : DE X a fa) : DE X (.UnaryOp .Not a pos) (mNotV fa) := pew (pe_not ha) fun σ H Q h => by
  obtain ⟨ρ, S, m, d, S', E, st, hf, q⟩ := h
  obtain ⟨p, h1, hf⟩ := obind hf
  refine ⟨ρ, S, m, p.1, p.2, E, st, h1, fun v H1 m1 x1 s1 r1 => ?_⟩
  match hp : p.1 with
  | .bl c => rw [hp] at hf r1; cases r1; cases hf; exact ⟨c, rfl, q _ H1 m1 x1 s1 (.bl _)⟩
  | .non => rw [hp] at hf; cases hf
  | .int _ => rw [hp] at hf; cases hf
  | .str _ => rw [hp] at hf; cases hf
  | .tup _ => rw [hp] at hf; cases hf
  | .rol _ => rw [hp] at hf; cases hf
  | .loc _ => rw [hp] at hf; cases hf
def mIf (t : Tx) (f g : Ex) : Ex := fun ρ S => (t ρ S).bind fun p => if p.1 = true then f ρ p.2 else g ρ p.2
theorem de_if {c : Expr} (hc : DT X c ta) (ha : DE X a fa) (hb : DE X b fb) : DE X (.IfExp c a b pos) (mIf ta fa fb) := pew (pe_ifExp hc ha hb) fun σ H Q h => by
  obtain ⟨ρ, S, m, d, S', E, st, hf, q⟩ := h
  obtain ⟨p, h1, hf⟩ := obind hf
  refine ⟨ρ, S, m, p.1, p.2, E, st, h1, fun H1 m1 x1 s1 => ?_⟩
  cases hp : p.1 with
  | true => rw [hp] at hf; exact iteT ⟨ρ, p.2, m1, d, S', E.mono st x1, s1, hf, fun w H2 m2 x2 s2 r2 => q w H2 m2 (x1.trans x2) s2 r2⟩
  | false => rw [hp] at hf; exact iteF ⟨ρ, p.2, m1, d, S', E.mono st x1, s1, hf, fun w H2 m2 x2 s2 r2 => q w H2 m2 (x1.trans x2) s2 r2⟩
end
end DD

/-! Operations upon data. -/
namespace DD
open PySem PySem.Spec PyProof.Rows L2

/-! ### as nested data -/
def mapO {α β : Type} (f : α → Option β) : List α → Option (List β)
  | [] => some []
  | x :: xs => (f x).bind fun y => (mapO f xs).bind fun ys => some (y :: ys)
def toPy : Nat → Sto → D → Option PyData
  | 0, _, .non => some .none
  | 0, _, .bl b => some (.bool b)
  | 0, _, .int i => some (.int i)
  | 0, _, .str x => some (.str x)
  | 0, _, _ => none
  | _ + 1, _, .non => some .none
  | _ + 1, _, .bl b => some (.bool b)
  | _ + 1, _, .int i => some (.int i)
  | _ + 1, _, .str x => some (.str x)
  | n + 1, S, .tup ds => (mapO (toPy n S) ds).bind fun ps => some (.tuple ps)
  | n + 1, S, .rol ds => (mapO (toPy n S) ds).bind fun ps => some (.list ps)
  | n + 1, S, .loc k => match S[k]? with
    | some (.lst ds) => (mapO (toPy n S) ds).bind fun ps => some (.list ps)
    | _ => none

section
variable {K : PySem.W.Frag} {H : Hp} {m : List Addr} {S : Sto}
theorem mapO_dp {f : D → Option PyData} (hf : ∀ d v p, Rep K H m d v → f d = some p → Dp K H v p) : ∀ {ds : List D} {vs : List V} {ps : List PyData}, RepL K H m ds vs → mapO f ds = some ps → DpAll K H vs ps
  | _, _, _, .nil, h => by cases h; exact .nil
  | _, _, _, .cons r t, h => by
    obtain ⟨y, h1, h⟩ := obind h
    obtain ⟨ys, h2, h⟩ := obind h
    cases h
    exact .cons (hf _ _ _ r h1) (mapO_dp hf t h2)
theorem StR.lst (s : StR K H m S) {n : Nat} {v : V} {ds : List D} (r : Rep K H m (.loc n) v) (h : S[n]? = some (.lst ds)) : ∃ a vs, v = .ref a ∧ m[n]? = some a ∧ H a = some (.lst vs) ∧ RepL K H m ds vs := by
  cases r with
  | loc hm =>
    obtain ⟨vs, e, q⟩ := s.ok n _ _ h hm
    exact ⟨_, vs, rfl, hm, e, q⟩
theorem toPy_dp (s : StR K H m S) : ∀ (n : Nat) (d : D) (v : V) (p : PyData), Rep K H m d v → toPy n S d = some p → Dp K H v p := by
  intro n
  induction n with
  | zero =>
    intro d v p r h
    cases d with
    | non => cases h; cases r; exact .non
    | bl b => cases h; cases r; exact .bl b
    | int b => cases h; cases r; exact .int b
    | str b => cases h; cases r; exact .str b
    | tup ds => cases h
    | rol ds => cases h
    | loc k => cases h
  | succ n ih =>
    intro d v p r h
    cases d with
    | non => cases h; cases r; exact .non
    | bl b => cases h; cases r; exact .bl b
    | int b => cases h; cases r; exact .int b
    | str b => cases h; cases r; exact .str b
    | tup ds =>
      obtain ⟨ps, h1, h⟩ := obind h
      cases h
      cases r with
      | tup hs rs => exact .tup hs (mapO_dp ih rs h1)
    | rol ds =>
      obtain ⟨ps, h1, h⟩ := obind h
      cases h
      cases r with
      | rol hs rs => exact .lst hs.sq (mapO_dp ih rs h1)
    | loc k =>
      simp only [toPy] at h
      cases hk : S[k]? with
      | none => rw [hk] at h; cases h
      | some c =>
        rw [hk] at h
        cases c with
        | dic kvs => cases h
        | lst ds =>
          obtain ⟨ps, h1, h⟩ := obind h
          cases h
          obtain ⟨a, vs, rfl, _, e, rs⟩ := s.lst r hk
          exact .lst (SqL.of e) (mapO_dp ih rs h1)

/-! ### sequences -/
def seqOf (S : Sto) : D → Option (List D)
  | .tup ds => some ds
  | .rol ds => some ds
  | .loc k => match S[k]? with | some (.lst ds) => some ds | _ => none
  | _ => none
theorem seqOf_rep (s : StR K H m S) {d : D} {v : V} {ds : List D} (r : Rep K H m d v) (h : seqOf S d = some ds) : ∃ a vs, v = .ref a ∧ (SqL K H a vs ∨ SqT K H a vs) ∧ RepL K H m ds vs := by
  cases d with
  | tup es => cases h; cases r with | tup hs rs => exact ⟨_, _, rfl, .inr hs, rs⟩
  | rol es => cases h; cases r with | rol hs rs => exact ⟨_, _, rfl, .inl hs.sq, rs⟩
  | loc k =>
    simp only [seqOf] at h
    cases hk : S[k]? with
    | none => rw [hk] at h; cases h
    | some c =>
      rw [hk] at h
      cases c with
      | dic kvs => cases h
      | lst es =>
        cases h
        obtain ⟨a, vs, rfl, _, e, rs⟩ := s.lst r hk
        exact ⟨a, vs, rfl, .inl (SqL.of e), rs⟩
  | _ => cases h
end

/-! ### arithmetic -/
def addD : Op2
  | .int i, .int j, S => some (.int (i + j), S)
  | .str a, .str b, S => if a.length + b.length ≤ sizeLine then some (.str (a ++ b), S) else none
  | .tup xs, .tup ys, S => if xs.length + ys.length ≤ sizeLine then some (.tup (xs ++ ys), S) else none
  | .loc a, .loc b, S => match S[a]?, S[b]? with
    | some (.lst xs), some (.lst ys) => if xs.length + ys.length ≤ sizeLine then some (.loc S.length, S ++ [.lst (xs ++ ys)]) else none
    | _, _ => none
  | _, _, _ => none
def rAddD (K : PySem.W.Frag) : R2 := fun x y H Q => (rI0 (fun i j => .int (i + j))) x y H Q ∨ (∃ i j, x = .str i ∧ y = .str j ∧ i.length + j.length ≤ sizeLine ∧ Q (.str (i ++ j)) H) ∨ rCatA K x y H Q ∨ rCat x y H Q
theorem or_add {X : Cx} : OpR X (binaryOp .Add) (rAddD X.K) := op_add.or (op_add_str.or (op_catA.or op_cat))
theorem od_add {K : PySem.W.Frag} : OpD K (rAddD K) addD := by
  intro H m S x y d e d' S' Q s rx ry h k
  match d, e, h with
  | .int i, .int j, h => cases h; cases rx; cases ry; exact .inl ⟨i, j, rfl, rfl, k _ H m (Ext.refl H m) s (.int _)⟩
  | .str a, .str b, h =>
    simp only [addD] at h
    by_cases hl : a.length + b.length ≤ sizeLine
    · rw [if_pos hl] at h; cases h; cases rx; cases ry; exact .inr (.inl ⟨a, b, rfl, rfl, hl, k _ H m (Ext.refl H m) s (.str _)⟩)
    · rw [if_neg hl] at h; cases h
  | .tup xs, .tup ys, h =>
    simp only [addD] at h
    by_cases hl : xs.length + ys.length ≤ sizeLine
    · rw [if_pos hl] at h; cases h
      cases rx with
      | tup h1 r1 =>
        cases ry with
        | tup h2 r2 =>
          refine .inr (.inr (.inl ⟨_, _, _, _, rfl, rfl, h1, h2, by rw [← r1.length, ← r2.length]; exact hl, fun e => ?_, fun e1 e => ?_, fun _ _ p hp => ?_⟩))
          · subst e; cases r1; exact k _ H m (Ext.refl H m) s (.tup h2 r2)
          · subst e; cases r2; rw [List.append_nil] at k; exact k _ H m (Ext.refl H m) s (.tup h1 r1)
          · exact k _ _ m (Ext.new1 hp) (s.new1 hp) (.tup (SqT.of upd_same) ((r1.app r2).mono s (Ext.new1 hp)))
    · rw [if_neg hl] at h; cases h
  | .loc a, .loc b, h =>
    simp only [addD] at h
    cases ha : S[a]? with
    | none => rw [ha] at h; cases h
    | some ca =>
      cases ca with
      | dic _ => rw [ha] at h; cases h
      | lst xs =>
        cases hb : S[b]? with
        | none => rw [ha, hb] at h; cases h
        | some cb =>
          cases cb with
          | dic _ => rw [ha, hb] at h; cases h
          | lst ys =>
            rw [ha, hb] at h
            simp only at h
            by_cases hl : xs.length + ys.length ≤ sizeLine
            · rw [if_pos hl] at h; cases h
              obtain ⟨a1, vs, rfl, _, e1, r1⟩ := s.lst rx ha
              obtain ⟨b1, us, rfl, _, e2, r2⟩ := s.lst ry hb
              refine .inr (.inr (.inr ⟨_, _, _, _, rfl, rfl, e1, e2, by rw [← r1.length, ← r2.length]; exact hl, fun p hp => ?_⟩))
              obtain ⟨q1, q2, q3⟩ := newL s (r1.app r2) hp
              exact k _ _ _ q1 q2 q3
            · rw [if_neg hl] at h; cases h
/-- two ints, under a condition -/
def intD (C : Int → Int → Prop) [∀ i j, Decidable (C i j)] (g : Int → Int → D) : Op2
  | .int i, .int j, S => if C i j then some (g i j, S) else none
  | _, _, _ => none
theorem od_int {K : PySem.W.Frag} {C C' : Int → Int → Prop} [∀ i j, Decidable (C i j)] {g : Int → Int → D} {g' : Int → Int → V} (hC : ∀ i j, C i j → C' i j) (hg : ∀ i j H m, Rep K H m (g i j) (g' i j)) : OpD K (rI C' g') (intD C g) := by
  intro H m S x y d e d' S' Q s rx ry h k
  match d, e, h with
  | .int i, .int j, h =>
    simp only [intD] at h
    by_cases hc : C i j
    · rw [if_pos hc] at h; cases h; cases rx; cases ry; exact ⟨i, j, rfl, rfl, hC i j hc, k _ H m (Ext.refl H m) s (hg i j H m)⟩
    · rw [if_neg hc] at h; cases h
def int0 (g : Int → Int → D) : Op2
  | .int i, .int j, S => some (g i j, S)
  | _, _, _ => none
theorem od_int0 {K : PySem.W.Frag} {g : Int → Int → D} {g' : Int → Int → V} (hg : ∀ i j H m, Rep K H m (g i j) (g' i j)) : OpD K (rI0 g') (int0 g) := by
  intro H m S x y d e d' S' Q s rx ry h k
  match d, e, h with
  | .int i, .int j, h => cases h; cases rx; cases ry; exact ⟨i, j, rfl, rfl, k _ H m (Ext.refl H m) s (hg i j H m)⟩
abbrev subD : Op2 := int0 fun i j => .int (i - j)
abbrev mulD : Op2 := intD (fun i j => (-(2 ^ 64) < i ∧ i < 2 ^ 64) ∨ (-(2 ^ 64) < j ∧ j < 2 ^ 64)) fun i j => .int (i * j)
abbrev fdivD : Op2 := intD (fun _ j => j ≠ 0 ∧ j.natAbs < 1073741824) fun i j => .int (i.fdiv j)
abbrev modD : Op2 := intD (fun _ j => j ≠ 0) fun i j => .int (i.fmod j)
abbrev powD : Op2 := intD (fun i j => 0 ≤ j ∧ j ≤ 1000000 ∧ i.natAbs < 2 ^ 64) fun i j => .int (i ^ j.toNat)
section
variable {X : Cx} {e a b c : Expr} {es : List Expr} {fa fb fc : Ex} {ga : As} {ta tb : Tx} {pos : Pos}
theorem de_add (ha : DE X a fa) (hb : DE X b fb) : DE X (.BinOp a .Add b pos) (m2 addD fa fb) := de_op or_add od_add ha hb
theorem de_sub (ha : DE X a fa) (hb : DE X b fb) : DE X (.BinOp a .Sub b pos) (m2 subD fa fb) := de_op op_sub (od_int0 fun _ _ _ _ => .int _) ha hb
theorem de_mul (ha : DE X a fa) (hb : DE X b fb) : DE X (.BinOp a .Mult b pos) (m2 mulD fa fb) := de_op op_mul (od_int (fun _ _ h => h) fun _ _ _ _ => .int _) ha hb
theorem de_fdiv (ha : DE X a fa) (hb : DE X b fb) : DE X (.BinOp a .FloorDiv b pos) (m2 fdivD fa fb) := de_op op_fdivN (od_int (fun _ _ h => h) fun _ _ _ _ => .int _) ha hb
theorem de_mod (ha : DE X a fa) (hb : DE X b fb) : DE X (.BinOp a .Mod b pos) (m2 modD fa fb) := de_op op_modN (od_int (fun _ _ h => h) fun _ _ _ _ => .int _) ha hb
theorem de_pow (ha : DE X a fa) (hb : DE X b fb) : DE X (.BinOp a .Pow b pos) (m2 powD fa fb) := de_op op_pow (od_int (fun _ _ h => h) fun _ _ _ _ => .int _) ha hb
def mNeg (f : Ex) : Ex := fun ρ S => (f ρ S).bind fun p => match p.1 with | .int i => some (.int (-i), p.2) | _ => none
theorem de_neg (ha : DE X a fa) : DE X (.UnaryOp .USub a pos) (mNeg fa) := pew (pe_un un_neg ha) fun σ H Q h => by
  obtain ⟨ρ, S, m, d, S', E, st, hf, q⟩ := h
  obtain ⟨p, h1, hf⟩ := obind hf
  refine ⟨ρ, S, m, p.1, p.2, E, st, h1, fun v H1 m1 x1 s1 r1 => ?_⟩
  cases hp : p.1 with
  | int c => rw [hp] at hf r1; cases r1; cases hf; exact ⟨c, rfl, q _ H1 m1 x1 s1 (.int _)⟩
  | _ => rw [hp] at hf; cases hf

/-! ### comparisons -/
abbrev cmpI (p : Int → Int → Bool) : Op2 := int0 fun i j => .bl (p i j)
abbrev ltD : Op2 := cmpI fun i j => decide (i < j)
abbrev leD : Op2 := cmpI fun i j => decide (i ≤ j)
abbrev gtD : Op2 := cmpI fun i j => decide (j < i)
abbrev geD : Op2 := cmpI fun i j => decide (j ≤ i)
theorem od_cmp {K : PySem.W.Frag} {p : Int → Int → Bool} : OpD K (rI0 fun i j => .bl (p i j)) (cmpI p) := od_int0 fun _ _ _ _ => .bl _
theorem de_lt (ha : DE X a fa) (hb : DE X b fb) : DE X (.Compare a [.Lt] [b] pos) (m2 ltD fa fb) := de_cmp op_lt od_cmp ha hb (nomark _)
theorem de_le (ha : DE X a fa) (hb : DE X b fb) : DE X (.Compare a [.LtE] [b] pos) (m2 leD fa fb) := de_cmp op_le od_cmp ha hb (nomark _)
theorem de_gt (ha : DE X a fa) (hb : DE X b fb) : DE X (.Compare a [.Gt] [b] pos) (m2 gtD fa fb) := de_cmp op_gt od_cmp ha hb (nomark _)
theorem de_ge (ha : DE X a fa) (hb : DE X b fb) : DE X (.Compare a [.GtE] [b] pos) (m2 geD fa fb) := de_cmp op_ge od_cmp ha hb (nomark _)
theorem dt_lt (ha : DE X a fa) (hb : DE X b fb) : DT X (.Compare a [.Lt] [b] pos) (mB (m2 ltD fa fb)) := dt_cmp op_lt od_cmp ha hb (nomark _)
theorem dt_le (ha : DE X a fa) (hb : DE X b fb) : DT X (.Compare a [.LtE] [b] pos) (mB (m2 leD fa fb)) := dt_cmp op_le od_cmp ha hb (nomark _)
theorem dt_gt (ha : DE X a fa) (hb : DE X b fb) : DT X (.Compare a [.Gt] [b] pos) (mB (m2 gtD fa fb)) := dt_cmp op_gt od_cmp ha hb (nomark _)
theorem dt_ge (ha : DE X a fa) (hb : DE X b fb) : DT X (.Compare a [.GtE] [b] pos) (mB (m2 geD fa fb)) := dt_cmp op_ge od_cmp ha hb (nomark _)
end

/-! ### equality -/
def eqB (S : Sto) : D → D → Option Bool
  | .int i, .int j => some (decide (i = j))
  | .str x, .str y => some (decide (x = y))
  | .bl x, .bl y => some (decide (x = y))
  | .non, .non => some true
  | d, e => (toPy 64 S d).bind fun p => (toPy 64 S e).bind fun q => if SeqAt.shaped p = true ∧ SeqAt.shaped q = true then some (PyData.eqv p q) else none
def eqD : Op2 := fun d e S => (eqB S d e).bind fun b => some (.bl b, S)
def neD : Op2 := fun d e S => (eqB S d e).bind fun b => some (.bl (!b), S)
def rEqA (K : PySem.W.Frag) : R2 := fun x y H Q => rEq x y H Q ∨ rEqD K x y H Q
def rNeA (K : PySem.W.Frag) : R2 := fun x y H Q => rNe x y H Q ∨ rNeD K x y H Q
theorem eqB_rep {K : PySem.W.Frag} {H : Hp} {m : List Addr} {S : Sto} {x y : V} {d e : D} {b : Bool} (s : StR K H m S) (rx : Rep K H m d x) (ry : Rep K H m e y) (h : eqB S d e = some b) :
    (scal x y = true ∧ b = decide (x = y)) ∨ ∃ p q, Dp K H x p ∧ Dp K H y q ∧ SeqAt.shaped p = true ∧ SeqAt.shaped q = true ∧ b = PyData.eqv p q := by
  unfold eqB at h
  split at h
  · cases h; cases rx; cases ry
    exact .inl ⟨rfl, by simp⟩
  · cases h; cases rx; cases ry
    exact .inl ⟨rfl, by simp⟩
  · cases h; cases rx; cases ry
    exact .inl ⟨rfl, by simp⟩
  · cases h; cases rx; cases ry
    exact .inl ⟨rfl, by simp⟩
  · obtain ⟨p, h1, h⟩ := obind h
    obtain ⟨q, h2, h⟩ := obind h
    by_cases hs : SeqAt.shaped p = true ∧ SeqAt.shaped q = true
    · rw [if_pos hs] at h; cases h
      exact .inr ⟨p, q, toPy_dp s _ _ _ _ rx h1, toPy_dp s _ _ _ _ ry h2, hs.1, hs.2, rfl⟩
    · rw [if_neg hs] at h; cases h
theorem od_eq {K : PySem.W.Frag} : OpD K (rEqA K) eqD := by
  intro H m S x y d e d' S' Q s rx ry h k
  obtain ⟨b, h1, h⟩ := obind h
  cases h
  have fin := k (.bl b) H m (Ext.refl H m) s (.bl b)
  rcases eqB_rep s rx ry h1 with ⟨q, rfl⟩ | ⟨p, q, d1, d2, s1, s2, rfl⟩
  · exact .inl ⟨q, fin⟩
  · exact .inr ⟨p, q, d1, d2, s1, s2, fin⟩
theorem od_ne {K : PySem.W.Frag} : OpD K (rNeA K) neD := by
  intro H m S x y d e d' S' Q s rx ry h k
  obtain ⟨b, h1, h⟩ := obind h
  cases h
  have fin := k (.bl (!b)) H m (Ext.refl H m) s (.bl _)
  rcases eqB_rep s rx ry h1 with ⟨q, rfl⟩ | ⟨p, q, d1, d2, s1, s2, rfl⟩
  · exact .inl ⟨q, fin⟩
  · exact .inr ⟨p, q, d1, d2, s1, s2, fin⟩
section
variable {X : Cx} {e a b c : Expr} {es : List Expr} {fa fb fc : Ex} {ga : As} {ta tb : Tx} {pos : Pos} {k : Nat}
theorem RG.hu (hr : RG k X) : X.A.units + 64 < cLine := hr.room.units
theorem RG.hu1 (hr : RG k X) : X.A.units + 1 < cLine := by have := hr.room.un; omega
theorem RG.hu65 (hr : RG k X) : X.A.units + 65 < cLine := by have := hr.room.un; omega
theorem or_eq (hr : RG k X) : OpR X (compareOp .Eq) (rEqA X.K) := op_eq.or (op_eqD hr.hu)
theorem or_ne (hr : RG k X) : OpR X (compareOp .NotEq) (rNeA X.K) := op_ne.or (op_neD hr.hu)
theorem de_eq (hr : RG k X) (ha : DE X a fa) (hb : DE X b fb) : DE X (.Compare a [.Eq] [b] pos) (m2 eqD fa fb) := de_cmp (or_eq hr) od_eq ha hb (nomark _)
theorem de_ne (hr : RG k X) (ha : DE X a fa) (hb : DE X b fb) : DE X (.Compare a [.NotEq] [b] pos) (m2 neD fa fb) := de_cmp (or_ne hr) od_ne ha hb (nomark _)
theorem dt_eq (hr : RG k X) (ha : DE X a fa) (hb : DE X b fb) : DT X (.Compare a [.Eq] [b] pos) (mB (m2 eqD fa fb)) := dt_cmp (or_eq hr) od_eq ha hb (nomark _)
theorem dt_ne (hr : RG k X) (ha : DE X a fa) (hb : DE X b fb) : DT X (.Compare a [.NotEq] [b] pos) (mB (m2 neD fa fb)) := dt_cmp (or_ne hr) od_ne ha hb (nomark _)

/-! ### is None -/
def isND : Op2 := fun d e S => match e with | .non => some (.bl (match d with | .non => true | _ => false), S) | _ => none
def notND : Op2 := fun d e S => match e with | .non => some (.bl (match d with | .non => false | _ => true), S) | _ => none
theorem od_isN {K : PySem.W.Frag} : OpD K (fun x y H Q => y = .non ∧ Q (.bl (decide (x = .non))) H) isND := by
  intro H m S x y d e d' S' Q s rx ry h k
  cases e with
  | non =>
    cases ry
    cases d <;> cases rx <;> cases h <;> exact ⟨rfl, k _ H m (Ext.refl H m) s (.bl _)⟩
  | _ => cases h
theorem od_notN {K : PySem.W.Frag} : OpD K (fun x y H Q => y = .non ∧ Q (.bl (!decide (x = .non))) H) notND := by
  intro H m S x y d e d' S' Q s rx ry h k
  cases e with
  | non =>
    cases ry
    cases d <;> cases rx <;> cases h <;> exact ⟨rfl, k _ H m (Ext.refl H m) s (.bl _)⟩
  | _ => cases h
theorem de_isN (ha : DE X a fa) (hb : DE X b fb) : DE X (.Compare a [.Is] [b] pos) (m2 isND fa fb) := de_cmp op_isN od_isN ha hb (nomark _)
theorem de_notN (ha : DE X a fa) (hb : DE X b fb) : DE X (.Compare a [.IsNot] [b] pos) (m2 notND fa fb) := de_cmp op_notN od_notN ha hb (nomark _)
theorem dt_isN (ha : DE X a fa) (hb : DE X b fb) : DT X (.Compare a [.Is] [b] pos) (mB (m2 isND fa fb)) := dt_cmp op_isN od_isN ha hb (nomark _)
theorem dt_notN (ha : DE X a fa) (hb : DE X b fb) : DT X (.Compare a [.IsNot] [b] pos) (mB (m2 notND fa fb)) := dt_cmp op_notN od_notN ha hb (nomark _)
end

/-! ### in -/
def flatD : D → Bool
  | .non | .bl _ | .int _ | .str _ => true
  | _ => false
def eqF : D → D → Bool
  | .non, .non => true
  | .bl a, .bl b => a == b
  | .bl a, .int b => (if a then 1 else 0) == b
  | .int a, .bl b => a == (if b then 1 else 0)
  | .int a, .int b => a == b
  | .str a, .str b => a == b
  | _, _ => false
def inB (S : Sto) (d e : D) : Option Bool := (seqOf S e).bind fun ds =>
  if flatD d = true ∧ ds.all flatD = true then some (ds.any fun y => eqF y d)
  else match e with
    | .tup _ => none
    | _ => (toPy 64 S d).bind fun p => (toPy 64 S e).bind fun q => if SeqAt.shaped p = true ∧ SeqAt.shaped q = true then (match q with | .list qs => some (qs.any fun z => PyData.eqv z p) | _ => none) else none
section
variable {K : PySem.W.Frag} {H : Hp} {m : List Addr} {S : Sto}
theorem flatD_rep {d : D} {v : V} (r : Rep K H m d v) (h : flatD d = true) : flatV v = true := by
  cases r <;> first | rfl | cases h
theorem eqF_rep {d e : D} {v u : V} (r : Rep K H m d v) (q : Rep K H m e u) (h : flatD d = true) (h' : flatD e = true) : eqF d e = eqV v u := by
  cases r <;> cases q <;> first | rfl | cases h | cases h'
theorem flatL_rep : ∀ {ds : List D} {vs : List V}, RepL K H m ds vs → ds.all flatD = true → vs.all flatV = true
  | _, _, .nil, _ => rfl
  | _, _, .cons r t, h => by
    rw [List.all_cons, Bool.and_eq_true] at h ⊢
    exact ⟨flatD_rep r h.1, flatL_rep t h.2⟩
theorem anyF_rep {d : D} {v : V} (q : Rep K H m d v) (hd : flatD d = true) : ∀ {ds : List D} {vs : List V}, RepL K H m ds vs → ds.all flatD = true → (ds.any fun y => eqF y d) = inV v vs
  | _, _, .nil, _ => rfl
  | _, _, .cons r t, h => by
    rw [List.all_cons, Bool.and_eq_true] at h
    show (eqF _ d || List.any _ fun y => eqF y d) = (eqV _ v || inV v _)
    rw [eqF_rep r q h.1 hd, anyF_rep q hd t h.2]
theorem inB_rep {x y : V} {d e : D} {b : Bool} (s : StR K H m S) (rx : Rep K H m d x) (ry : Rep K H m e y) (h : inB S d e = some b) :
    (∃ p xs, y = .ref p ∧ (SqL K H p xs ∨ SqT K H p xs) ∧ flatV x = true ∧ xs.all flatV = true ∧ b = inV x xs) ∨
      ∃ p qs, Dp K H x p ∧ Dp K H y (.list qs) ∧ SeqAt.shaped p = true ∧ SeqAt.shaped (.list qs) = true ∧ b = qs.any fun z => PyData.eqv z p := by
  unfold inB at h
  obtain ⟨ds, h1, h⟩ := obind h
  obtain ⟨a, vs, rfl, hs, rs⟩ := seqOf_rep s ry h1
  by_cases hf : flatD d = true ∧ ds.all flatD = true
  · rw [if_pos hf] at h; cases h
    exact .inl ⟨a, vs, rfl, hs, flatD_rep rx hf.1, flatL_rep rs hf.2, anyF_rep rx hf.1 rs hf.2⟩
  · rw [if_neg hf] at h
    have h' : ((toPy 64 S d).bind fun p => (toPy 64 S e).bind fun q => if SeqAt.shaped p = true ∧ SeqAt.shaped q = true then (match q with | .list qs => some (qs.any fun z => PyData.eqv z p) | _ => none) else none) = some b := by
      cases e <;> first | exact h | cases h
    obtain ⟨p, h2, h'⟩ := obind h'
    obtain ⟨q, h3, h'⟩ := obind h'
    by_cases hq : SeqAt.shaped p = true ∧ SeqAt.shaped q = true
    · rw [if_pos hq] at h'
      cases q with
      | list qs => cases h'; exact .inr ⟨p, qs, toPy_dp s _ _ _ _ rx h2, toPy_dp s _ _ _ _ ry h3, hq.1, hq.2, rfl⟩
      | _ => cases h'
    · rw [if_neg hq] at h'; cases h'
end
def inD : Op2 := fun d e S => (inB S d e).bind fun b => some (.bl b, S)
def notInD : Op2 := fun d e S => (inB S d e).bind fun b => some (.bl (!b), S)
theorem od_in {K : PySem.W.Frag} : OpD K (fun x y H Q => rIn K false x y H Q ∨ rInD K x y H Q) inD := by
  intro H m S x y d e d' S' Q s rx ry h k
  obtain ⟨b, h1, h⟩ := obind h
  cases h
  have fin := k (.bl b) H m (Ext.refl H m) s (.bl b)
  rcases inB_rep s rx ry h1 with ⟨p, xs, e, hs, f1, f2, rfl⟩ | ⟨p, qs, d1, d2, s1, s2, rfl⟩
  · exact .inl ⟨p, xs, e, hs, f1, f2, fin⟩
  · exact .inr ⟨p, qs, d1, d2, s1, s2, fin⟩
theorem od_notIn {K : PySem.W.Frag} : OpD K (fun x y H Q => rIn K true x y H Q ∨ rNotInD K x y H Q) notInD := by
  intro H m S x y d e d' S' Q s rx ry h k
  obtain ⟨b, h1, h⟩ := obind h
  cases h
  have fin := k (.bl (!b)) H m (Ext.refl H m) s (.bl _)
  rcases inB_rep s rx ry h1 with ⟨p, xs, e, hs, f1, f2, rfl⟩ | ⟨p, qs, d1, d2, s1, s2, rfl⟩
  · exact .inl ⟨p, xs, e, hs, f1, f2, fin⟩
  · exact .inr ⟨p, qs, d1, d2, s1, s2, fin⟩
section
variable {X : Cx} {e a b c : Expr} {es : List Expr} {fa fb fc : Ex} {ga : As} {ta tb : Tx} {pos : Pos} {k : Nat}
theorem de_in (hr : RG k X) (ha : DE X a fa) (hb : DE X b fb) (hm : behindInMarks .In b = false := by rfl) : DE X (.Compare a [.In] [b] pos) (m2 inD fa fb) := de_cmp (op_in_seq.or (op_inD hr.hu65)) od_in ha hb hm
theorem de_notIn (hr : RG k X) (ha : DE X a fa) (hb : DE X b fb) (hm : behindInMarks .NotIn b = false := by rfl) : DE X (.Compare a [.NotIn] [b] pos) (m2 notInD fa fb) := de_cmp (op_notIn_seq.or (op_notInD hr.hu65)) od_notIn ha hb hm
theorem dt_in (hr : RG k X) (ha : DE X a fa) (hb : DE X b fb) (hm : behindInMarks .In b = false := by rfl) : DT X (.Compare a [.In] [b] pos) (mB (m2 inD fa fb)) := dt_cmp (op_in_seq.or (op_inD hr.hu65)) od_in ha hb hm
theorem dt_notIn (hr : RG k X) (ha : DE X a fa) (hb : DE X b fb) (hm : behindInMarks .NotIn b = false := by rfl) : DT X (.Compare a [.NotIn] [b] pos) (mB (m2 notInD fa fb)) := dt_cmp (op_notIn_seq.or (op_notInD hr.hu65)) od_notIn ha hb hm
end
end DD

/-! Items, slices, dicts, methods, built-ins upon data. -/
namespace DD
open PySem PySem.Spec PyProof.Rows L2

section
variable {K : PySem.W.Frag} {H : Hp} {m : List Addr} {S : Sto}
theorem atI_rep {ds : List D} {vs : List V} {i : Int} {d : D} (r : RepL K H m ds vs) (h : atI ds i = some d) : ∃ v, atI vs i = some v ∧ Rep K H m d v := by
  unfold atI at h ⊢
  obtain ⟨j, h1, h2⟩ := obind h
  obtain ⟨v, h3, h4⟩ := r.get h2
  exact ⟨v, by rw [← r.length, h1]; exact h3, h4⟩

/-! ### dicts -/
def keyOf : D → Option Key
  | .int i => some (.inl i)
  | .str x => some (.inr x)
  | _ => none
def getK (kvs : List (Key × D)) (k : Key) : Option D := (kvs.find? fun kv => decide (kv.1 = k)).map (·.2)
def putD (kvs : List (Key × D)) (k : Key) (d : D) : List (Key × D) :=
  if (kvs.any fun kv => decide (kv.1 = k)) = true then kvs.map (fun kv => if kv.1 = k then (kv.1, d) else kv) else kvs ++ [(k, d)]
theorem keyOf_rep {d : D} {v : V} {k : Key} (r : Rep K H m d v) (h : keyOf d = some k) : v = kV k := by
  cases d with
  | int i => cases h; cases r; rfl
  | str x => cases h; cases r; rfl
  | _ => cases h
abbrev KVR (K : PySem.W.Frag) (H : Hp) (m : List Addr) : List (Key × D) → List (Key × V) → Prop := Paired (fun (p : Key × D) (q : Key × V) => p.1 = q.1 ∧ Rep K H m p.2 q.2)
theorem getK_rep {k : Key} : ∀ {kvs : List (Key × D)} {ks : List (Key × V)}, KVR K H m kvs ks → (∀ d, getK kvs k = some d → ∃ v, valV ks k = some v ∧ Rep K H m d v) ∧ (getK kvs k = none → valV ks k = none)
  | _, _, .nil => ⟨(fun d h => by cases h), fun _ => rfl⟩
  | (k1, d1) :: r1, (k2, v2) :: r2, .cons ⟨e, r⟩ t => by
    have e' : k1 = k2 := e
    subst e'
    by_cases hk : k1 = k
    · have a1 : getK ((k1, d1) :: r1) k = some d1 := by unfold getK; rw [List.find?_cons_of_pos (by simp [hk])]; rfl
      have a2 : valV ((k1, v2) :: r2) k = some v2 := valV_pos hk
      rw [a1, a2]
      exact ⟨(fun d h => by cases h; exact ⟨v2, rfl, r⟩), (fun h => by cases h)⟩
    · have a1 : getK ((k1, d1) :: r1) k = getK r1 k := by unfold getK; rw [List.find?_cons_of_neg (by simp [hk])]
      have a2 : valV ((k1, v2) :: r2) k = valV r2 k := by unfold valV; rw [List.find?_cons_of_neg (by simp [hk])]
      rw [a1, a2]
      exact getK_rep t
theorem any_rep {k : Key} : ∀ {kvs : List (Key × D)} {ks : List (Key × V)}, KVR K H m kvs ks → (kvs.any fun kv => decide (kv.1 = k)) = (ks.any fun kv => decide (kv.1 = k))
  | _, _, .nil => rfl
  | (k1, d1) :: r1, (k2, v2) :: r2, .cons ⟨e, r⟩ t => by
    have e' : k1 = k2 := e
    subst e'
    rw [List.any_cons, List.any_cons, any_rep t]
theorem mapK_rep {k : Key} {d : D} {v : V} (q : Rep K H m d v) : ∀ {kvs : List (Key × D)} {ks : List (Key × V)}, KVR K H m kvs ks → KVR K H m (kvs.map fun kv => if kv.1 = k then (kv.1, d) else kv) (ks.map fun kv => if kv.1 = k then (kv.1, v) else kv)
  | _, _, .nil => .nil
  | (k1, d1) :: r1, (k2, v2) :: r2, .cons ⟨e, r⟩ t => by
    have e' : k1 = k2 := e
    subst e'
    rw [List.map_cons, List.map_cons]
    refine .cons ?_ (mapK_rep q t)
    by_cases hk : k1 = k
    · simp only [hk, if_true]; exact ⟨trivial, q⟩
    · simp only [hk, if_false]; exact ⟨trivial, r⟩
theorem putD_rep {k : Key} {d : D} {v : V} (q : Rep K H m d v) {kvs : List (Key × D)} {ks : List (Key × V)} (r : KVR K H m kvs ks) : KVR K H m (putD kvs k d) (putK ks k v) := by
  unfold putD putK
  rw [any_rep (k := k) r]
  split
  · exact mapK_rep q r
  · exact Paired.snoc r ⟨rfl, q⟩
theorem StR.dic (s : StR K H m S) {n : Nat} {v : V} {kvs : List (Key × D)} (r : Rep K H m (.loc n) v) (h : S[n]? = some (.dic kvs)) : ∃ a ks, v = .ref a ∧ m[n]? = some a ∧ H a = some (.dK ks) ∧ KVR K H m kvs ks := by
  cases r with
  | loc hm =>
    obtain ⟨vs, e, q⟩ := s.ok n _ _ h hm
    exact ⟨_, vs, rfl, hm, e, q⟩
end

/-! ### items -/
def ixS : Op2 := fun d e S => match e with
  | .int i => match d with
    | .str z => if z.length ≤ sizeLine then (atI z.cps.toList i).bind fun c => some (.str ⟨#[c]⟩, S) else none
    | _ => (seqOf S d).bind fun ds => (atI ds i).bind fun x => some (x, S)
  | _ => none
def ixD : Op2 := fun d e S => match d with
  | .loc n => match S[n]? with
    | some (.dic kvs) => (keyOf e).bind fun k => (getK kvs k).bind fun x => some (x, S)
    | _ => ixS d e S
  | _ => ixS d e S
theorem od_ixS {K : PySem.W.Frag} : OpD K (rIx K) ixS := by
  intro H m S x y d e d' S' Q s rx ry h k
  cases e with
  | int i =>
    cases ry
    have seq : (seqOf S d).bind (fun ds => (atI ds i).bind fun x => some (x, S)) = some (d', S') → rIx K x (.int i) H Q := fun h => by
      obtain ⟨ds, h1, h⟩ := obind h
      obtain ⟨z, h2, h⟩ := obind h
      cases h
      obtain ⟨a, vs, rfl, hs, rs⟩ := seqOf_rep s rx h1
      obtain ⟨v, h3, rv⟩ := atI_rep rs h2
      have fin := k v H m (Ext.refl H m) s rv
      rcases hs with hs | hs
      · exact .inl ⟨a, vs, i, v, rfl, rfl, hs, h3, fin⟩
      · exact .inr (.inl ⟨a, vs, i, v, rfl, rfl, hs, h3, fin⟩)
    cases d with
    | str z =>
      simp only [ixS] at h
      by_cases hz : z.length ≤ sizeLine
      · rw [if_pos hz] at h
        obtain ⟨c, h1, h⟩ := obind h
        cases h
        cases rx
        exact .inr (.inr ⟨z, i, c, rfl, rfl, hz, h1, k _ H m (Ext.refl H m) s (.str _)⟩)
      · rw [if_neg hz] at h; cases h
    | _ => exact seq h
  | _ => cases h
section
variable {X : Cx} {e a b c : Expr} {es : List Expr} {fa fb fc : Ex} {ga : As} {ta tb : Tx} {pos : Pos} {k : Nat}
theorem de_ix (hr : RG k X) (ha : DE X a fa) (hb : DE X b fb) (hs : PlainIx b := by exact fun _ _ => rfl) (hs2 : NoSl b := by exact fun _ _ => rfl) : DE X (.Subscript a b pos) (m2 ixD fa fb) := by
  refine ⟨fun pins s σ H Q I h => ?_⟩
  obtain ⟨ρ, S, m, d', S', E, st, hf, q⟩ := id h
  obtain ⟨p1, h1, hf⟩ := obind hf
  obtain ⟨p2, h2, hf⟩ := obind hf
  have alt : ixS p1.1 p2.1 p2.2 = some (d', S') → wpAny (model X.prog X.w) X.A (eval (.Subscript a b pos) X.env) (EP X pins σ Q) X.xe s := fun hx =>
    (pew (pe_ix ix_seq ha hb hs) fun _ _ _ h => use2 (g := ixS) od_ixS h).run pins s σ H Q I ⟨ρ, S, m, d', S', E, st, by unfold m2; rw [h1, Option.bind_some, h2]; exact hx, q⟩
  cases hp : p1.1 with
  | loc n =>
    rw [hp] at hf alt
    simp only [ixD] at hf
    cases hn : p2.2[n]? with
    | none => rw [hn] at hf; exact alt hf
    | some cl =>
      rw [hn] at hf
      cases cl with
      | lst ds => exact alt hf
      | dic kvs =>
        obtain ⟨kk, k1, hf⟩ := obind hf
        obtain ⟨z0, k2, hf⟩ := obind hf
        cases hf
        refine (pe_dget hr.hu1 ha hb hs2).run pins s σ H Q I ⟨ρ, S, m, p1.1, p1.2, E, st, h1, fun v H1 m1 x1 s1 r1 => ⟨ρ, p1.2, m1, p2.1, p2.2, E.mono st x1, s1, h2, fun u H2 m2 x2 s2 r2 => ?_⟩⟩
        have r1' := r1.mono s1 x2
        rw [hp] at r1'
        obtain ⟨a', ks, rfl, _, e1, rk⟩ := s2.dic r1' hn
        obtain ⟨v', g1, g2⟩ := (getK_rep (k := kk) rk).1 _ k2
        refine ⟨a', v', rfl, ?_, q v' H2 m2 (x1.trans x2) s2 g2⟩
        rw [keyOf_rep r2 k1, ← g1]
        exact DGet.k e1
  | _ => rw [hp] at hf alt; exact alt hf
theorem dt_ix (hr : RG k X) (ha : DE X a fa) (hb : DE X b fb) (hs : PlainIx b := by exact fun _ _ => rfl) (hs2 : NoSl b := by exact fun _ _ => rfl) : DT X (.Subscript a b pos) (mB (m2 ixD fa fb)) := dt_val (de_ix hr ha hb hs hs2)

/-! ### slices -/
def lstOf (S : Sto) : D → Option (List D)
  | .rol ds => some ds
  | .loc k => match S[k]? with | some (.lst ds) => some ds | _ => none
  | _ => none
theorem lstOf_rep {K : PySem.W.Frag} {H : Hp} {m : List Addr} {S : Sto} (s : StR K H m S) {d : D} {v : V} {ds : List D} (r : Rep K H m d v) (h : lstOf S d = some ds) : ∃ a vs, v = .ref a ∧ SqL K H a vs ∧ RepL K H m ds vs := by
  cases d with
  | rol es => cases h; cases r with | rol hs rs => exact ⟨_, _, rfl, hs.sq, rs⟩
  | loc k =>
    simp only [lstOf] at h
    cases hk : S[k]? with
    | none => rw [hk] at h; cases h
    | some c =>
      rw [hk] at h
      cases c with
      | dic kvs => cases h
      | lst es =>
        cases h
        obtain ⟨a, vs, rfl, _, e, rs⟩ := s.lst r hk
        exact ⟨a, vs, rfl, SqL.of e, rs⟩
  | _ => cases h
def cutD (xs : List D) (lo hi : Option Int) : List D := (xs.drop (HT.sIx xs.length 0 lo)).take (HT.sIx xs.length xs.length hi - HT.sIx xs.length 0 lo)
theorem cutD_rep {K : PySem.W.Frag} {H : Hp} {m : List Addr} {ds : List D} {vs : List V} (r : RepL K H m ds vs) (lo hi : Option Int) : RepL K H m (cutD ds lo hi) (cutV vs lo hi) := by
  unfold cutD cutV
  rw [r.length]
  exact (r.drop _).take _
def sliceD (d : D) (lo hi : Option Int) (S : Sto) : Option (D × Sto) := match d with
  | .tup ds => some (.tup (cutD ds lo hi), S)
  | .str z => if z.length ≤ sizeLine then some (.str (cutS z lo hi), S) else none
  | d => (lstOf S d).bind fun ds => some (.loc S.length, S ++ [.lst (cutD ds lo hi)])
abbrev Po := Env → Sto → Option (Option Int × Sto)
def mNoP : Po := fun _ S => some (none, S)
def mP (f : Ex) : Po := fun ρ S => (f ρ S).bind fun p => match p.1 with | .int i => some (some i, p.2) | _ => none
def tPo (K : PySem.W.Frag) (f : Po) : TO := fun σ H Q => ∃ ρ S m o S', EnvR K H m ρ σ ∧ StR K H m S ∧ f ρ S = some (o, S') ∧ ∀ H' m', Ext H m H' m' → StR K H' m' S' → Q o H'
abbrev DP (X : Cx) (e : Option Expr) (f : Po) : Prop := PO X e (tPo X.K f)
theorem pow {e : Option Expr} {t t' : TO} (h : PO X e t) (w : ∀ σ H Q, t' σ H Q → t σ H Q) : PO X e t' := ⟨fun pins s σ H Q I q => h.run pins s σ H Q I (w σ H Q q)⟩
theorem dp_none : DP X none mNoP := pow po_none fun σ H Q h => by
  obtain ⟨ρ, S, m, o, S', E, st, hf, q⟩ := h
  cases hf
  exact q H m (Ext.refl H m) st
theorem dp_some (ha : DE X a fa) : DP X (some a) (mP fa) := pow (po_some ha) fun σ H Q h => by
  obtain ⟨ρ, S, m, o, S', E, st, hf, q⟩ := h
  obtain ⟨p, h1, hf⟩ := obind hf
  refine ⟨ρ, S, m, p.1, p.2, E, st, h1, fun v H1 m1 x1 s1 r1 => ?_⟩
  cases hp : p.1 with
  | int c => rw [hp] at hf r1; cases r1; cases hf; exact ⟨c, rfl, q H1 m1 x1 s1⟩
  | _ => rw [hp] at hf; cases hf
def mSl (f : Ex) (lo hi : Po) : Ex := fun ρ S => (f ρ S).bind fun p => (lo ρ p.2).bind fun l => (hi ρ l.2).bind fun u => sliceD p.1 l.1 u.1 u.2
def rSlD (K : PySem.W.Frag) : V → Option Int → Option Int → Hp → VK → Prop := fun x lo hi H Q => rSlA K x lo hi H Q ∨ rSlL K x lo hi H Q ∨ rSlS x lo hi H Q
theorem cutV_all {xs : List V} {lo hi : Option Int} (h : HT.sIx xs.length 0 lo = 0 ∧ HT.sIx xs.length xs.length hi = xs.length) : cutV xs lo hi = xs := by
  unfold cutV
  rw [h.1, h.2, List.drop_zero, Nat.sub_zero, List.take_length]
theorem slice_rep {K : PySem.W.Frag} {H : Hp} {m : List Addr} {S S' : Sto} {d d' : D} {v : V} {lo hi : Option Int} {Q : VK} (s : StR K H m S) (r : Rep K H m d v) (h : sliceD d lo hi S = some (d', S'))
    (q : ∀ v H' m', Ext H m H' m' → StR K H' m' S' → Rep K H' m' d' v → Q v H') : rSlD K v lo hi H Q := by
  have seq : (lstOf S d).bind (fun ds => some (D.loc S.length, S ++ [Cell.lst (cutD ds lo hi)])) = some (d', S') → rSlD K v lo hi H Q := fun hh => by
    obtain ⟨ds, h4, hh⟩ := obind hh
    cases hh
    obtain ⟨a', vs, rfl, hs, rs⟩ := lstOf_rep s r h4
    refine .inr (.inl ⟨a', vs, rfl, hs, fun p hp => ?_⟩)
    obtain ⟨q1, q2, q3⟩ := newL s (cutD_rep rs lo hi) hp
    exact q _ _ _ q1 q2 q3
  cases d with
  | tup ds =>
    cases h
    cases r with
    | tup hs rs =>
      refine .inl ⟨_, _, rfl, hs, fun e => ?_, fun _ p hp => ?_⟩
      · have := cutD_rep rs lo hi
        rw [cutV_all e] at this
        exact q _ H m (Ext.refl H m) s (.tup hs this)
      · exact q _ _ m (Ext.new1 hp) (s.new1 hp) (.tup (SqT.of upd_same) ((cutD_rep rs lo hi).mono s (Ext.new1 hp)))
  | str z =>
    simp only [sliceD] at h
    by_cases hz : z.length ≤ sizeLine
    · rw [if_pos hz] at h; cases h; cases r
      exact .inr (.inr ⟨z, rfl, hz, q _ H m (Ext.refl H m) s (.str _)⟩)
    · rw [if_neg hz] at h; cases h
  | _ => exact seq h
theorem de_sl {lo hi : Option Expr} {fl fh : Po} {p2 : Pos} (ha : DE X a fa) (hl : DP X lo fl) (hh : DP X hi fh) : DE X (.Subscript a (.Slice lo hi none p2) pos) (mSl fa fl fh) :=
  pew (pe_slice (r := rSlD X.K) (sl_tupA.or (sl_list.or sl_str)) ha hl hh) fun σ H Q h => by
    obtain ⟨ρ, S, m, d, S', E, st, hf, q⟩ := h
    obtain ⟨p1, h1, hf⟩ := obind hf
    obtain ⟨p2, h2, hf⟩ := obind hf
    obtain ⟨p3, h3, hf⟩ := obind hf
    refine ⟨ρ, S, m, p1.1, p1.2, E, st, h1, fun v H1 m1 x1 s1 r1 => ⟨ρ, p1.2, m1, p2.1, p2.2, E.mono st x1, s1, h2, fun H2 m2 x2 s2 => ⟨ρ, p2.2, m2, p3.1, p3.2, (E.mono st x1).mono s1 x2, s2, h3, fun H3 m3 x3 s3 => ?_⟩⟩⟩
    exact slice_rep s3 ((r1.mono s1 x2).mono s2 x3) hf fun w H4 m4 x4 s4 r4 => q w H4 m4 (((x1.trans x2).trans x3).trans x4) s4 r4

/-! ### methods of lists -/
def appD : Op2 := fun d e S => match d with
  | .loc n => match S[n]? with
    | some (.lst ds) => if ds.length < sizeLine then some (.non, S.set n (.lst (ds ++ [e]))) else none
    | _ => none
  | _ => none
def popD (d : D) (S : Sto) : Option (D × Sto) := match d with
  | .loc n => match S[n]? with
    | some (.lst ds) => (ds[ds.length - 1]?).bind fun x => some (x, S.set n (.lst ds.dropLast))
    | _ => none
  | _ => none
theorem RepL.dropLast {K : PySem.W.Frag} {H : Hp} {m : List Addr} {ds : List D} {vs : List V} (r : RepL K H m ds vs) : RepL K H m ds.dropLast vs.dropLast := by
  rw [List.dropLast_eq_take, List.dropLast_eq_take, r.length]
  exact r.take _
theorem putL {K : PySem.W.Frag} {H : Hp} {m : List Addr} {S : Sto} {n : Nat} {a : Addr} {ds : List D} {vs : List V} (s : StR K H m S) (h : m[n]? = some a) (r : RepL K H m ds vs) : Ext H m (upd H a (.lst vs)) m ∧ StR K (upd H a (.lst vs)) m (S.set n (.lst ds)) := by
  have x := Ext.put (o := HO.lst vs) s h
  exact ⟨x, s.put h ⟨vs, upd_same, r.mono s x⟩⟩
def mMeth1 (g : Op2) (fa : Ex) (ga : As) : Ex := fun ρ S => (fa ρ S).bind fun p => (lstOf p.2 p.1).bind fun _ => (ga ρ p.2).bind fun q => match q.1 with | [e] => g p.1 e q.2 | _ => none
def mMeth0 (g : D → Sto → Option (D × Sto)) (fa : Ex) : Ex := fun ρ S => (fa ρ S).bind fun p => (lstOf p.2 p.1).bind fun _ => g p.1 p.2
theorem tyL {K : PySem.W.Frag} {H : Hp} {m : List Addr} {S : Sto} (s : StR K H m S) {d : D} {v : V} {ds : List D} (r : Rep K H m d v) (h : lstOf S d = some ds) : tyV K "list" v H := by
  obtain ⟨a, vs, rfl, hs, _⟩ := lstOf_rep s r h
  exact .inl ⟨rfl, _, hs⟩
theorem app_rep {K : PySem.W.Frag} {H : Hp} {m : List Addr} {S S' : Sto} {d e d' : D} {v u : V} {Q : VK} (s : StR K H m S) (r : Rep K H m d v) (r2 : Rep K H m e u) (h : appD d e S = some (d', S'))
    (q : ∀ v H' m', Ext H m H' m' → StR K H' m' S' → Rep K H' m' d' v → Q v H') : rAppend v [u] H Q := by
  cases d with
  | loc n =>
    simp only [appD] at h
    cases hn : S[n]? with
    | none => rw [hn] at h; cases h
    | some cl =>
      rw [hn] at h
      cases cl with
      | dic _ => cases h
      | lst ds =>
        simp only at h
        by_cases hl : ds.length < sizeLine
        · rw [if_pos hl] at h; cases h
          obtain ⟨a', vs, rfl, hm, e1, rs⟩ := s.lst r hn
          obtain ⟨q1, q2⟩ := putL s hm (rs.app (.cons r2 .nil))
          exact ⟨a', vs, _, rfl, rfl, e1, by rw [← rs.length]; exact hl, q _ _ m q1 q2 .non⟩
        · rw [if_neg hl] at h; cases h
  | _ => cases h
theorem pop_rep {K : PySem.W.Frag} {H : Hp} {m : List Addr} {S S' : Sto} {d d' : D} {v : V} {Q : VK} (s : StR K H m S) (r : Rep K H m d v) (h : popD d S = some (d', S'))
    (q : ∀ v H' m', Ext H m H' m' → StR K H' m' S' → Rep K H' m' d' v → Q v H') : rPop v [] H Q := by
  cases d with
  | loc n =>
    simp only [popD] at h
    cases hn : S[n]? with
    | none => rw [hn] at h; cases h
    | some cl =>
      rw [hn] at h
      cases cl with
      | dic _ => cases h
      | lst ds =>
        obtain ⟨x, h1, h⟩ := obind h
        cases h
        obtain ⟨a', vs, rfl, hm, e1, rs⟩ := s.lst r hn
        obtain ⟨y, g1, g2⟩ := rs.get h1
        rw [rs.length] at g1
        obtain ⟨q1, q2⟩ := putL s hm rs.dropLast
        exact ⟨a', vs, y, rfl, rfl, e1, g1, q _ _ m q1 q2 (g2.mono s q1)⟩
  | _ => cases h
theorem de_append {apos : Pos} (ho : DE X a fa) (ha : DA X [e] ga) (hbase : attributeBase a "append" X.env (eval a X.env) = eval a X.env := by rfl)
    (hfew : ((backTo pos (starEach [e] X.env)).all (fun x => !x.1) && (backToKw pos (keywordEach [] X.env)).all (fun x => x.1.isSome) && decide ([e].length + ([] : List Keyword).length + (if ([] : List Keyword).isEmpty then 0 else 1) < 30)) = true := by rfl)
    (hline : (apos.endLine == pos.line) = true := by rfl) (hs : starEach [e] X.env = (false, eval e X.env) :: starEach [] X.env := by rfl) : DE X (.Call (.Attribute a "append" apos) [e] [] pos) (mMeth1 appD fa ga) :=
  pew (pe_bm PySem.F.plainAttrs_list PySem.F.slot_list_append PySem.F.type_list_append mt_append ho ha.pa hbase hfew hline hs) fun σ H Q h => by
    obtain ⟨ρ, S, m, d, S', E, st, hf, q⟩ := h
    obtain ⟨p1, h1, hf⟩ := obind hf
    obtain ⟨ls, hls, hf⟩ := obind hf
    obtain ⟨p2, h2, hf⟩ := obind hf
    have hlen := ha.len _ _ _ _ h2
    refine ⟨ρ, S, m, p1.1, p1.2, E, st, h1, fun v H1 m1 x1 s1 r1 => ⟨tyL s1 r1 hls, ρ, p1.2, m1, p2.1, p2.2, E.mono st x1, s1, h2, fun us H2 m2 x2 s2 r2 => ?_⟩⟩
    generalize p2.1 = l at hf hlen r2
    match l, hf, hlen, r2 with
    | [d1], hf, _, .cons r2 .nil => exact app_rep s2 (r1.mono s1 x2) r2 hf fun w H3 m3 x3 s3 r3 => q w H3 m3 ((x1.trans x2).trans x3) s3 r3
theorem de_pop {apos : Pos} (ho : DE X a fa) (hbase : attributeBase a "pop" X.env (eval a X.env) = eval a X.env := by rfl) (hline : (apos.endLine == pos.line) = true := by rfl) : DE X (.Call (.Attribute a "pop" apos) [] [] pos) (mMeth0 popD fa) :=
  pew (pe_bm0 PySem.F.plainAttrs_list PySem.F.slot_list_pop PySem.F.type_list_pop mt_pop ho hbase hline) fun σ H Q h => by
    obtain ⟨ρ, S, m, d, S', E, st, hf, q⟩ := h
    obtain ⟨p1, h1, hf⟩ := obind hf
    obtain ⟨ls, hls, hf⟩ := obind hf
    refine ⟨ρ, S, m, p1.1, p1.2, E, st, h1, fun v H1 m1 x1 s1 r1 => ⟨tyL s1 r1 hls, pop_rep s1 r1 hf fun w H2 m2 x2 s2 r2 => q w H2 m2 (x1.trans x2) s2 r2⟩⟩

/-! ### built-ins of one argument -/
abbrev Op1 := D → Sto → Option (D × Sto)
def Op1D (K : PySem.W.Frag) (r : List V → Hp → VK → Prop) (g : Op1) : Prop := ∀ (H : Hp) (m : List Addr) (S : Sto) (x : V) (d d' : D) (S' : Sto) (Q : VK), StR K H m S → Rep K H m d x → g d S = some (d', S') →
  (∀ v H' m', Ext H m H' m' → StR K H' m' S' → Rep K H' m' d' v → Q v H') → r [x] H Q
def m1 (g : Op1) (ga : As) : Ex := fun ρ S => (ga ρ S).bind fun q => match q.1 with | [e] => g e q.2 | _ => none
theorem use1 {K : PySem.W.Frag} {r : List V → Hp → VK → Prop} {g : Op1} (o : Op1D K r g) (ha : ∀ ρ S ds S', ga ρ S = some (ds, S') → ds.length = 1) {σ : L2.St} {H : Hp} {Q : VK} (h : tE K (m1 g ga) σ H Q) : tCB r (tA K ga) σ H Q := by
  obtain ⟨ρ, S, m, d, S', E, st, hf, q⟩ := h
  obtain ⟨p2, h2, hf⟩ := obind hf
  have hlen := ha _ _ _ _ h2
  refine ⟨ρ, S, m, p2.1, p2.2, E, st, h2, fun us H2 m2 x2 s2 r2 => ?_⟩
  generalize p2.1 = l at hf hlen r2
  match l, hf, hlen, r2 with
  | [d1], hf, _, .cons r2 .nil => exact o H2 m2 p2.2 _ d1 d S' Q s2 r2 hf fun w H3 m3 x3 s3 r3 => q w H3 m3 (x2.trans x3) s3 r3
theorem de_b1 {id : String} {x : Str} {p : Pos} {r : List V → Hp → VK → Prop} {g : Op1} (hc : CallR X (.builtin id) r) (o : Op1D X.K r g) (hg : Gl X x) (hm : X.mg x = none) (hv : bootBuiltins x = some (.builtin id)) (ha : DA X [e] ga) (hn : x ≠ "__name__" := by decide) (hdb : (x == ("__debug__" : Str)) = false := by decide)
    (he : starEach [e] X.env = (false, eval e X.env) :: starEach [] X.env := by rfl) : DE X (.Call (.Name x p) [e] [] pos) (m1 g ga) := pew (pe_callB hc hg hm hv ha.pa hn hdb he rfl) fun _ _ _ h => use1 o (fun ρ S ds S' q => ha.len ρ S ds S' q) h
theorem de_t1 {id : String} {x : Str} {p : Pos} {r : List V → Hp → VK → Prop} {g : Op1} (hc : CallR X (.type id) r) (o : Op1D X.K r g) (hg : Gl X x) (hm : X.mg x = none) (hv : bootBuiltins x = some (.type id)) (ha : DA X [e] ga) (hn : x ≠ "__name__" := by decide) (hdb : (x == ("__debug__" : Str)) = false := by decide)
    (he : starEach [e] X.env = (false, eval e X.env) :: starEach [] X.env := by rfl) : DE X (.Call (.Name x p) [e] [] pos) (m1 g ga) := pew (pe_callTy hc hg hm hv ha.pa hn hdb he rfl) fun _ _ _ h => use1 o (fun ρ S ds S' q => ha.len ρ S ds S' q) h

theorem CallR.or {f : Value} {r r' : List V → Hp → VK → Prop} (h : CallR X f r) (h' : CallR X f r') : CallR X f (fun xs H Q => r xs H Q ∨ r' xs H Q) := fun pins s σ H xs us Q I rv q => q.elim (h pins s σ H xs us Q I rv) (h' pins s σ H xs us Q I rv)

/-- len -/
def lenD : Op1 := fun d S => match d with
  | .str z => if z.length ≤ sizeLine then some (.int z.length, S) else none
  | .loc n => match S[n]? with
    | some (.lst ds) => some (.int ds.length, S)
    | some (.dic kvs) => some (.int kvs.length, S)
    | none => none
  | .tup ds => some (.int ds.length, S)
  | .rol ds => some (.int ds.length, S)
  | _ => none
def rLenD (K : PySem.W.Frag) : List V → Hp → VK → Prop := fun xs H Q => (∃ p ys, xs = [.ref p] ∧ (SqL K H p ys ∨ SqT K H p ys) ∧ Q (.int ys.length) H) ∨ (∃ z, xs = [.str z] ∧ z.length ≤ sizeLine ∧ Q (.int z.length) H) ∨
  (∃ a kvs, xs = [V.ref a] ∧ H a = some (.dK kvs) ∧ Q (.int kvs.length) H)
theorem Paired.len {α β : Type} {F : α → β → Prop} {l : List α} {l' : List β} (r : Paired F l l') : l.length = l'.length := Paired.length r
theorem o1_len {K : PySem.W.Frag} : Op1D K (rLenD K) lenD := by
  intro H m S x d d' S' Q s r h k
  cases d with
  | str z =>
    simp only [lenD] at h
    by_cases hz : z.length ≤ sizeLine
    · rw [if_pos hz] at h; cases h; cases r; exact .inr (.inl ⟨z, rfl, hz, k _ H m (Ext.refl H m) s (.int _)⟩)
    · rw [if_neg hz] at h; cases h
  | tup ds => cases h; cases r with | tup hs rs => exact .inl ⟨_, _, rfl, .inr hs, by rw [← rs.length]; exact k _ H m (Ext.refl H m) s (.int _)⟩
  | rol ds => cases h; cases r with | rol hs rs => exact .inl ⟨_, _, rfl, .inl hs.sq, by rw [← rs.length]; exact k _ H m (Ext.refl H m) s (.int _)⟩
  | loc n =>
    simp only [lenD] at h
    cases hn : S[n]? with
    | none => rw [hn] at h; cases h
    | some cl =>
      rw [hn] at h
      cases cl with
      | lst ds =>
        cases h
        obtain ⟨a', vs, rfl, hm, e1, rs⟩ := s.lst r hn
        exact .inl ⟨_, _, rfl, .inl (SqL.of e1), by rw [← rs.length]; exact k _ H m (Ext.refl H m) s (.int _)⟩
      | dic ds =>
        cases h
        obtain ⟨a', vs, rfl, hm, e1, rs⟩ := s.dic r hn
        exact .inr (.inr ⟨_, _, rfl, e1, by rw [← Paired.len rs]; exact k _ H m (Ext.refl H m) s (.int _)⟩)
  | _ => cases h
theorem de_len {p : Pos} (hg : Gl X "len") (hm : X.mg "len" = none) (ha : DA X [e] ga) (he : starEach [e] X.env = (false, eval e X.env) :: starEach [] X.env := by rfl) : DE X (.Call (.Name "len" p) [e] [] pos) (m1 lenD ga) :=
  de_b1 (CallR.or call_len_seq (CallR.or call_len_str call_lenD)) o1_len hg hm (by decide +kernel) ha (by decide) (by decide) he
/-- abs, int -/
def absD : Op1 := fun d S => match d with | .int i => some (.int (if i < 0 then -i else i), S) | _ => none
def toIntD : Op1 := fun d S => match d with | .int i => some (.int i, S) | .bl b => some (.int (if b then 1 else 0), S) | _ => none
theorem o1_abs {K : PySem.W.Frag} : Op1D K (fun xs H Q => ∃ i, xs = [.int i] ∧ Q (.int (if i < 0 then -i else i)) H) absD := by
  intro H m S x d d' S' Q s r h k
  cases d with
  | int i => cases h; cases r; exact ⟨i, rfl, k _ H m (Ext.refl H m) s (.int _)⟩
  | _ => cases h
theorem o1_int {K : PySem.W.Frag} : Op1D K (fun xs H Q => (∃ i, xs = [.int i] ∧ Q (.int i) H) ∨ ∃ k, xs = [.bl k] ∧ Q (.int (if k then 1 else 0)) H) toIntD := by
  intro H m S x d d' S' Q s r h k
  cases d with
  | int i => cases h; cases r; exact .inl ⟨i, rfl, k _ H m (Ext.refl H m) s (.int _)⟩
  | bl i => cases h; cases r; exact .inr ⟨i, rfl, k _ H m (Ext.refl H m) s (.int _)⟩
  | _ => cases h
theorem de_abs {p : Pos} (hg : Gl X "abs") (hm : X.mg "abs" = none) (ha : DA X [e] ga) (he : starEach [e] X.env = (false, eval e X.env) :: starEach [] X.env := by rfl) : DE X (.Call (.Name "abs" p) [e] [] pos) (m1 absD ga) :=
  de_b1 call_abs o1_abs hg hm (by decide +kernel) ha (by decide) (by decide) he
theorem de_toInt {p : Pos} (hg : Gl X "int") (hm : X.mg "int" = none) (ha : DA X [e] ga) (he : starEach [e] X.env = (false, eval e X.env) :: starEach [] X.env := by rfl) : DE X (.Call (.Name "int" p) [e] [] pos) (m1 toIntD ga) :=
  de_t1 call_int1 o1_int hg hm (by decide +kernel) ha (by decide) (by decide) he
/-- tuple, list -/
def tupleD : Op1 := fun d S => (seqOf S d).bind fun ds => some (.tup ds, S)
def listD : Op1 := fun d S => (seqOf S d).bind fun ds => some (.loc S.length, S ++ [.lst ds])
theorem o1_tuple {K : PySem.W.Frag} : Op1D K (fun xs H Q => ∃ p ys, xs = [.ref p] ∧ ((SqL K H p ys ∧ ∀ l, H l = none → Q (.ref l) (upd H l (.tup ys))) ∨ (SqT K H p ys ∧ Q (.ref p) H))) tupleD := by
  intro H m S x d d' S' Q s r h k
  obtain ⟨ds, h1, h⟩ := obind h
  cases h
  obtain ⟨a, vs, rfl, hs, rs⟩ := seqOf_rep s r h1
  refine ⟨a, vs, rfl, ?_⟩
  rcases hs with hs | hs
  · exact .inl ⟨hs, fun l hl => k _ _ m (Ext.new1 hl) (s.new1 hl) (.tup (SqT.of upd_same) (rs.mono s (Ext.new1 hl)))⟩
  · exact .inr ⟨hs, k _ H m (Ext.refl H m) s (.tup hs rs)⟩
theorem o1_list {K : PySem.W.Frag} : Op1D K (fun xs H Q => ∃ p ys, xs = [.ref p] ∧ (SqL K H p ys ∨ SqT K H p ys) ∧ ∀ l, H l = none → Q (.ref l) (upd H l (.lst ys))) listD := by
  intro H m S x d d' S' Q s r h k
  obtain ⟨ds, h1, h⟩ := obind h
  cases h
  obtain ⟨a, vs, rfl, hs, rs⟩ := seqOf_rep s r h1
  refine ⟨a, vs, rfl, hs, fun l hl => ?_⟩
  obtain ⟨q1, q2, q3⟩ := newL s rs hl
  exact k _ _ _ q1 q2 q3
theorem de_tuple {p : Pos} (hg : Gl X "tuple") (hm : X.mg "tuple" = none) (ha : DA X [e] ga) (he : starEach [e] X.env = (false, eval e X.env) :: starEach [] X.env := by rfl) : DE X (.Call (.Name "tuple" p) [e] [] pos) (m1 tupleD ga) :=
  de_t1 call_tuple_of o1_tuple hg hm (by decide +kernel) ha (by decide) (by decide) he
theorem de_list {p : Pos} (hg : Gl X "list") (hm : X.mg "list" = none) (ha : DA X [e] ga) (he : starEach [e] X.env = (false, eval e X.env) :: starEach [] X.env := by rfl) : DE X (.Call (.Name "list" p) [e] [] pos) (m1 listD ga) :=
  de_t1 call_list_of o1_list hg hm (by decide +kernel) ha (by decide) (by decide) he

/-! ### repr -/
def reprD : Op1 := fun d S => (toPy 64 S d).bind fun p => if PyData.showable p = true ∧ p.shown.length ≤ sizeLine ∧ p.depth ≤ 64 then (match p with | .list _ => some (.str p.shown, S) | .tuple _ => some (.str p.shown, S) | _ => none) else none
def rRepr (K : PySem.W.Frag) : List V → Hp → VK → Prop := fun xs H Q => ∃ x p, xs = [x] ∧ Dp K H x p ∧ (∃ qs, p = .list qs ∨ p = .tuple qs) ∧ PyData.showable p = true ∧ p.shown.length ≤ sizeLine ∧ p.depth ≤ 64 ∧ Q (.str p.shown) H
theorem Dp_noDict {K : PySem.W.Frag} {H : Hp} : ∀ (p : PyData) (x : V), Dp K H x p → p.hasDict = false := by
  intro p
  refine PyData.rec (motive_1 := fun p => ∀ x, Dp K H x p → p.hasDict = false) (motive_2 := fun ps => ∀ xs, DpAll K H xs ps → PyData.hasDictAll ps = false) (motive_3 := fun _ => True) (motive_4 := fun _ => True) ?_ ?_ ?_ ?_ ?_ ?_ ?_ ?_ ?_ ?_ ?_ ?_ p
  · intro x h; simp only [PyData.hasDict]
  · intro b x h; simp only [PyData.hasDict]
  · intro b x h; simp only [PyData.hasDict]
  · intro b x h; simp only [PyData.hasDict]
  · intro xs ih x h
    cases h with
    | lst _ h2 => simpa only [PyData.hasDict] using ih _ h2
  · intro xs ih x h
    cases h with
    | tup _ h2 => simpa only [PyData.hasDict] using ih _ h2
  · intro kvs _ x h; cases h
  · intro xs h; simp only [PyData.hasDictAll]
  · intro a r ih1 ih2 xs h
    cases h with
    | cons h1 h2 => simp only [PyData.hasDictAll, ih1 _ h1, ih2 _ h2, Bool.or_self]
  all_goals (intros; trivial)
theorem call_repr (hr : RG k X) : CallR X (.builtin "repr") (rRepr X.K) := by
  intro pins s σ H xs us Q I r h
  obtain ⟨x, p, rfl, hd, ⟨qs, hq⟩, h1, h2, h3, q⟩ := h
  obtain ⟨u, rfl, ru⟩ := vals1 r
  obtain ⟨as, hreads⟩ := Dp.reads I p x u hd ru
  have hx : ∃ a, x = .ref a := by
    rcases hq with rfl | rfl <;> cases hd <;> exact ⟨_, rfl⟩
  obtain ⟨a, rfl⟩ := hx
  cases ru
  have hn := Dp_noDict p _ hd
  have hu := hr.room.un
  refine repr_of_reads' hreads h1 (fun z => by rw [hn] at z; cases z) hr.gd (by omega) (fun _ _ e => e) (fun h' u tk hk => ?_) h2
  exact ⟨.str p.shown, H, I.kept (t' := tk) hk, ⟨u, rfl⟩, q⟩
theorem o1_repr {K : PySem.W.Frag} : Op1D K (rRepr K) reprD := by
  intro H m S x d d' S' Q s r h q
  obtain ⟨p, h1, h⟩ := obind h
  by_cases hc : PyData.showable p = true ∧ p.shown.length ≤ sizeLine ∧ p.depth ≤ 64
  · rw [if_pos hc] at h
    have hd := toPy_dp s _ _ _ _ r h1
    cases p with
    | list qs => cases h; exact ⟨x, _, rfl, hd, ⟨qs, .inl rfl⟩, hc.1, hc.2.1, hc.2.2, q _ H m (Ext.refl H m) s (.str _)⟩
    | tuple qs => cases h; exact ⟨x, _, rfl, hd, ⟨qs, .inr rfl⟩, hc.1, hc.2.1, hc.2.2, q _ H m (Ext.refl H m) s (.str _)⟩
    | _ => cases h
  · rw [if_neg hc] at h; cases h
theorem de_repr {p : Pos} (hr : RG k X) (hg : Gl X "repr") (hm : X.mg "repr" = none) (ha : DA X [e] ga) (he : starEach [e] X.env = (false, eval e X.env) :: starEach [] X.env := by rfl) : DE X (.Call (.Name "repr" p) [e] [] pos) (m1 reprD ga) :=
  de_b1 (call_repr hr) o1_repr hg hm (by decide +kernel) ha (by decide) (by decide) he
end
end DD

/-! Statements, loops, comprehensions upon data. -/
namespace DD
open PySem PySem.Spec PyProof.Rows L2

/-! ### equality of data is decided -/
mutual
def D.dec : (a b : D) → Decidable (a = b)
  | .non, .non => .isTrue rfl
  | .bl a, .bl b => if h : a = b then .isTrue (by rw [h]) else .isFalse (fun q => h (D.bl.inj q))
  | .int a, .int b => if h : a = b then .isTrue (by rw [h]) else .isFalse (fun q => h (D.int.inj q))
  | .str a, .str b => if h : a = b then .isTrue (by rw [h]) else .isFalse (fun q => h (D.str.inj q))
  | .loc a, .loc b => if h : a = b then .isTrue (by rw [h]) else .isFalse (fun q => h (D.loc.inj q))
  | .tup a, .tup b => match D.decL a b with
    | .isTrue h => .isTrue (by rw [h])
    | .isFalse h => .isFalse (fun q => h (D.tup.inj q))
  | .rol a, .rol b => match D.decL a b with
    | .isTrue h => .isTrue (by rw [h])
    | .isFalse h => .isFalse (fun q => h (D.rol.inj q))
  | .non, .bl _ => .isFalse (fun q => by cases q)
  | .non, .int _ => .isFalse (fun q => by cases q)
  | .non, .str _ => .isFalse (fun q => by cases q)
  | .non, .tup _ => .isFalse (fun q => by cases q)
  | .non, .rol _ => .isFalse (fun q => by cases q)
  | .non, .loc _ => .isFalse (fun q => by cases q)
  | .bl _, .non => .isFalse (fun q => by cases q)
  | .bl _, .int _ => .isFalse (fun q => by cases q)
  | .bl _, .str _ => .isFalse (fun q => by cases q)
  | .bl _, .tup _ => .isFalse (fun q => by cases q)
  | .bl _, .rol _ => .isFalse (fun q => by cases q)
  | .bl _, .loc _ => .isFalse (fun q => by cases q)
  | .int _, .non => .isFalse (fun q => by cases q)
  | .int _, .bl _ => .isFalse (fun q => by cases q)
  | .int _, .str _ => .isFalse (fun q => by cases q)
  | .int _, .tup _ => .isFalse (fun q => by cases q)
  | .int _, .rol _ => .isFalse (fun q => by cases q)
  | .int _, .loc _ => .isFalse (fun q => by cases q)
  | .str _, .non => .isFalse (fun q => by cases q)
  | .str _, .bl _ => .isFalse (fun q => by cases q)
  | .str _, .int _ => .isFalse (fun q => by cases q)
  | .str _, .tup _ => .isFalse (fun q => by cases q)
  | .str _, .rol _ => .isFalse (fun q => by cases q)
  | .str _, .loc _ => .isFalse (fun q => by cases q)
  | .tup _, .non => .isFalse (fun q => by cases q)
  | .tup _, .bl _ => .isFalse (fun q => by cases q)
  | .tup _, .int _ => .isFalse (fun q => by cases q)
  | .tup _, .str _ => .isFalse (fun q => by cases q)
  | .tup _, .rol _ => .isFalse (fun q => by cases q)
  | .tup _, .loc _ => .isFalse (fun q => by cases q)
  | .rol _, .non => .isFalse (fun q => by cases q)
  | .rol _, .bl _ => .isFalse (fun q => by cases q)
  | .rol _, .int _ => .isFalse (fun q => by cases q)
  | .rol _, .str _ => .isFalse (fun q => by cases q)
  | .rol _, .tup _ => .isFalse (fun q => by cases q)
  | .rol _, .loc _ => .isFalse (fun q => by cases q)
  | .loc _, .non => .isFalse (fun q => by cases q)
  | .loc _, .bl _ => .isFalse (fun q => by cases q)
  | .loc _, .int _ => .isFalse (fun q => by cases q)
  | .loc _, .str _ => .isFalse (fun q => by cases q)
  | .loc _, .tup _ => .isFalse (fun q => by cases q)
  | .loc _, .rol _ => .isFalse (fun q => by cases q)
def D.decL : (a b : List D) → Decidable (a = b)
  | [], [] => .isTrue rfl
  | [], _ :: _ => .isFalse (fun q => by cases q)
  | _ :: _, [] => .isFalse (fun q => by cases q)
  | a :: as, b :: bs => match D.dec a b with
    | .isFalse h => .isFalse (fun q => h (List.cons.inj q).1)
    | .isTrue h => match D.decL as bs with
      | .isTrue h' => .isTrue (by rw [h, h'])
      | .isFalse h' => .isFalse (fun q => h' (List.cons.inj q).2)
end
instance : DecidableEq D := D.dec

theorem psw {X : Cx} {e : Stmt} {t t' : TS} (h : PS X e t) (w : ∀ E σ H, t' E σ H → t E σ H) : PS X e t' := ⟨fun pins s σ H E I q => h.run pins s σ H E I (w E σ H q)⟩
theorem pssw {X : Cx} {e : List Stmt} {t t' : TS} (h : PSs X e t) (w : ∀ E σ H, t' E σ H → t E σ H) : PSs X e t' := ⟨fun pins s σ H E I q => h.run pins s σ H E I (w E σ H q)⟩
abbrev DS (X : Cx) (e : Stmt) (f : SM) : Prop := PS X e (tS X.K f)
abbrev DSs (X : Cx) (e : List Stmt) (f : SM) : Prop := PSs X e (tS X.K f)

def mSeq (f g : SM) : SM := fun ρ S => (f ρ S).bind fun o => match o with | .nx ρ' S' => g ρ' S' | o => some o
def mSkip : SM := fun ρ S => some (.nx ρ S)
def mRet (f : Ex) : SM := fun ρ S => (f ρ S).bind fun p => some (.rt p.1 p.2)
def mRetN : SM := fun _ S => some (.rt .non S)
def mDo (f : Ex) : SM := fun ρ S => (f ρ S).bind fun p => some (.nx ρ p.2)
def mIte (t : Tx) (f g : SM) : SM := fun ρ S => (t ρ S).bind fun p => if p.1 = true then f ρ p.2 else g ρ p.2
def mBreak : SM := fun ρ S => some (.bk ρ S)
def mCont : SM := fun ρ S => some (.ct ρ S)
section
variable {X : Cx} {st : Stmt} {rest : List Stmt} {f g : SM} {e a b : Expr} {fa fb : Ex} {ga : As} {ta : Tx} {pos : Pos} {k : Nat}
theorem dss_nil : DSs X [] mSkip := pssw pss_nil fun E σ H h => by
  obtain ⟨ρ, S, m, o, er, sr, hf, q⟩ := h
  cases hf
  exact q σ H m (Ext.refl H m) sr er
theorem dss_cons (h1 : DS X st f) (h2 : DSs X rest g) : DSs X (st :: rest) (mSeq f g) := pssw (pss_cons h1 h2) fun E σ H h => by
  obtain ⟨ρ, S, m, o, er, sr, hf, q⟩ := h
  obtain ⟨o1, h1, hf⟩ := obind hf
  refine ⟨ρ, S, m, o1, er, sr, h1, ?_⟩
  cases o1 with
  | nx ρ1 S1 => exact fun σ1 H1 m1 x1 s1 e1 => ⟨ρ1, S1, m1, o, e1, s1, hf, q.mono x1⟩
  | rt d S1 => cases hf; exact q
  | bk ρ1 S1 => cases hf; exact q
  | ct ρ1 S1 => cases hf; exact q
theorem dss_one (h1 : DS X st f) : DSs X [st] f := pss_one h1
theorem ds_pass : DS X (.Pass pos) mSkip := psw ps_pass fun E σ H h => by
  obtain ⟨ρ, S, m, o, er, sr, hf, q⟩ := h
  cases hf
  exact q σ H m (Ext.refl H m) sr er
theorem ds_break : DS X (.Break pos) mBreak := psw ps_break fun E σ H h => by
  obtain ⟨ρ, S, m, o, er, sr, hf, q⟩ := h
  cases hf
  exact q σ H m (Ext.refl H m) sr er
theorem ds_cont : DS X (.Continue pos) mCont := psw ps_continue fun E σ H h => by
  obtain ⟨ρ, S, m, o, er, sr, hf, q⟩ := h
  cases hf
  exact q σ H m (Ext.refl H m) sr er
theorem ds_doc {x : Str} {j : Nat} {p : Pos} : DS X (.Expr (.Constant (.str x) j p) pos) mSkip := psw ps_doc fun E σ H h => by
  obtain ⟨ρ, S, m, o, er, sr, hf, q⟩ := h
  cases hf
  exact q σ H m (Ext.refl H m) sr er
theorem ds_ret (ha : DE X a fa) : DS X (.Return (some a) pos) (mRet fa) := psw (ps_ret ha) fun E σ H h => by
  obtain ⟨ρ, S, m, o, er, sr, hf, q⟩ := h
  obtain ⟨p, h1, hf⟩ := obind hf
  cases hf
  exact ⟨ρ, S, m, p.1, p.2, er, sr, h1, fun v H1 m1 x1 s1 r1 => q v H1 m1 x1 s1 r1⟩
theorem ds_retN : DS X (.Return none pos) mRetN := psw ps_retN fun E σ H h => by
  obtain ⟨ρ, S, m, o, er, sr, hf, q⟩ := h
  cases hf
  exact q .non H m (Ext.refl H m) sr .non
theorem ds_do (ha : DE X a fa) (hs : swapsWith a none pos.line X.env = pure false := by rfl) : DS X (.Expr a pos) (mDo fa) := psw (ps_expr ha hs) fun E σ H h => by
  obtain ⟨ρ, S, m, o, er, sr, hf, q⟩ := h
  obtain ⟨p, h1, hf⟩ := obind hf
  cases hf
  exact ⟨ρ, S, m, p.1, p.2, er, sr, h1, fun v H1 m1 x1 s1 r1 => q σ H1 m1 x1 s1 (er.mono sr x1)⟩
theorem ds_if {c : Expr} {as bs : List Stmt} (hc : DT X c ta) (ha : DSs X as f) (hb : DSs X bs g) : DS X (.If c as bs pos) (mIte ta f g) := psw (ps_if hc ha hb) fun E σ H h => by
  obtain ⟨ρ, S, m, o, er, sr, hf, q⟩ := h
  obtain ⟨p, h1, hf⟩ := obind hf
  refine ⟨ρ, S, m, p.1, p.2, er, sr, h1, fun H1 m1 x1 s1 => ?_⟩
  cases hp : p.1 with
  | true => rw [hp] at hf; exact iteT ⟨ρ, p.2, m1, o, er.mono sr x1, s1, hf, q.mono x1⟩
  | false => rw [hp] at hf; exact iteF ⟨ρ, p.2, m1, o, er.mono sr x1, s1, hf, q.mono x1⟩

/-! ### targets -/
abbrev Gm := D → Env → Option Env
abbrev Gs := List D → Env → Option Env
def tGm (vs : List Nat) (K : PySem.W.Frag) (g : Gm) : TG := fun v σ H Q => ∃ ρ m S d ρ', EnvR K H m ρ σ ∧ StR K H m S ∧ Rep K H m d v ∧ g d ρ = some ρ' ∧ ∀ σ', EnvR K H m ρ' σ' → wipe σ' vs = wipe σ vs → Q σ' H
def tGs (vs : List Nat) (K : PySem.W.Frag) (g : Gs) : TGs := fun xs σ H Q => ∃ ρ m S ds ρ', EnvR K H m ρ σ ∧ StR K H m S ∧ RepL K H m ds xs ∧ g ds ρ = some ρ' ∧ ∀ σ', EnvR K H m ρ' σ' → wipe σ' vs = wipe σ vs → Q σ' H
abbrev DG (X : Cx) (vs : List Nat) (t : Expr) (g : Gm) : Prop := PG X t (tGm vs X.K g)
structure DGs (X : Cx) (vs : List Nat) (t : List Expr) (g : Gs) : Prop where
  pg : PGs X t (tGs vs X.K g)
  len : ∀ ds ρ ρ', g ds ρ = some ρ' → ds.length = t.length
theorem pgw {t : Expr} {g g' : TG} (h : PG X t g) (w : ∀ v σ H Q, g' v σ H Q → g v σ H Q) : PG X t g' := ⟨fun pins s σ H v u Q I r q => h.run pins s σ H v u Q I r (w v σ H Q q)⟩
theorem pgsw {t : List Expr} {g g' : TGs} (h : PGs X t g) (w : ∀ v σ H Q, g' v σ H Q → g v σ H Q) : PGs X t g' := ⟨fun pins s σ H v u Q I r q => h.run pins s σ H v u Q I r (w v σ H Q q)⟩
theorem wipe_get (σ : L2.St) (j : Nat) : ∀ vs : List Nat, (wipe σ vs)[j]? = if j ∈ vs then (σ[j]?).map fun _ => none else σ[j]?
  | [] => by simp [wipe]
  | v :: vs => by
    show ((wipe σ vs).set v none)[j]? = _
    by_cases h : j = v
    · subst h
      rw [if_pos List.mem_cons_self]
      by_cases hl : j < σ.length
      · rw [List.getElem?_set_self (by rw [wipe_length]; exact hl), List.getElem?_eq_getElem hl]; rfl
      · rw [List.getElem?_eq_none (by rw [List.length_set, wipe_length]; omega), List.getElem?_eq_none (by omega)]; rfl
    · rw [List.getElem?_set_ne (Ne.symm h), wipe_get σ j vs]
      have : j ∈ v :: vs ↔ j ∈ vs := by simp [h]
      simp only [this]
theorem wipe_set {σ : L2.St} {i : Nat} {x : Option V} {vs : List Nat} (h : i ∈ vs) : wipe (σ.set i x) vs = wipe σ vs := by
  refine List.ext_getElem? fun j => ?_
  rw [wipe_get, wipe_get]
  by_cases hj : j = i
  · subst hj
    rw [if_pos h, if_pos h]
    by_cases hl : j < σ.length
    · rw [List.getElem?_set_self hl, List.getElem?_eq_getElem hl]; rfl
    · rw [List.getElem?_eq_none (by rw [List.length_set]; omega), List.getElem?_eq_none (by omega)]
  · rw [List.getElem?_set_ne (Ne.symm hj)]
def gN (i : Nat) : Gm := fun d ρ => some (ρ.set i (some d))
def gT (g : Gs) : Gm := fun d ρ => match d with | .tup ds => g ds ρ | _ => none
def gsNil : Gs := fun ds ρ => match ds with | [] => some ρ | _ => none
def gsCons (g : Gm) (h : Gs) : Gs := fun ds ρ => match ds with | d :: r => (g d ρ).bind fun ρ' => h r ρ' | [] => none
theorem dg_name (vs : List Nat) (i : Nat) {x : Str} (hN : X.N.Nodup) (hi : X.N[i]? = some x) (hx : Loc X.env.scope x) (hv : i ∈ vs) (hf : X.fn x = true ∨ X.env.scope.names.lookup x = some .local := by first | exact .inl rfl | exact .inr rfl | assumption) : DG X vs (.Name x pos) (gN i) :=
  pgw (pg_name hN hi hx hf) fun v σ H Q h => by
    obtain ⟨ρ, m, S, d, ρ', er, sr, r, hg, q⟩ := h
    cases hg
    exact q _ (er.set i (show RepO X.K H m (some d) (some v) from r)) (wipe_set hv)
theorem dgs_nil (vs : List Nat) : DGs X vs [] gsNil := by
  refine ⟨pgsw pgs_nil fun v σ H Q h => ?_, fun ds ρ ρ' h => ?_⟩
  · obtain ⟨ρ, m, S, d, ρ', er, sr, r, hg, q⟩ := h
    cases r with
    | nil => cases hg; exact ⟨rfl, q σ er rfl⟩
    | cons _ _ => cases hg
  · cases ds with
    | nil => rfl
    | cons _ _ => cases h
theorem dgs_cons {vs : List Nat} {g1 : Gm} {g2 : Gs} {es : List Expr} (h1 : DG X vs e g1) (h2 : DGs X vs es g2) (hs : (assignEach (e :: es) X.env).map (·.2) = assign e X.env :: (assignEach es X.env).map (·.2) := by rfl) : DGs X vs (e :: es) (gsCons g1 g2) :=
  ⟨pgsw (pgs_cons h1 h2.pg hs) fun v σ H Q h => by
    obtain ⟨ρ, m, S, ds, ρ', er, sr, r, hg, q⟩ := h
    cases r with
    | nil => cases hg
    | cons r rr =>
      obtain ⟨ρ1, hg1, hg⟩ := obind hg
      exact ⟨_, _, rfl, ρ, m, S, _, ρ1, er, sr, r, hg1, fun σ1 e1 w1 => ⟨ρ1, m, S, _, ρ', e1, sr, rr, hg, fun σ2 e2 w2 => q σ2 e2 (w2.trans w1)⟩⟩,
  fun ds ρ ρ' h => by
    cases ds with
    | nil => cases h
    | cons d r =>
      obtain ⟨ρ1, hg1, hg⟩ := obind h
      rw [List.length_cons, List.length_cons, h2.len _ _ _ hg]⟩
theorem dg_tup {vs : List Nat} {g : Gs} {es : List Expr} {kk n : Nat} (hc : X.calm = true) (h : DGs X vs es g) (hl : es.length = n := by rfl) (hn : (assignEach es X.env).length = n := by rfl) (hst : (assignEach es X.env).findIdx? (·.1) = none := by rfl) : DG X vs (.Tuple es kk pos) (gT g) :=
  pgw (pg_tup hc h.pg hn hst) fun v σ H Q hh => by
    obtain ⟨ρ, m, S, d, ρ', er, sr, r, hg, q⟩ := hh
    cases d with
    | tup ds =>
      cases r with
      | tup hs rs => exact ⟨_, _, rfl, hs, by rw [← rs.length, h.len _ _ _ hg]; exact hl, ρ, m, S, ds, ρ', er, sr, rs, hg, q⟩
    | _ => cases hg

/-! ### assignments -/
def mAsg (f : Ex) (g : Gm) : SM := fun ρ S => (f ρ S).bind fun p => (g p.1 ρ).bind fun ρ' => some (.nx ρ' p.2)
theorem asg_use {vs : List Nat} {gm : Gm} {E : Ends} {σ : L2.St} {H : Hp} (h : tS X.K (mAsg fa gm) E σ H) : tAsg (tE X.K fa) (tGm vs X.K gm) E σ H := by
  obtain ⟨ρ, S, m, o, er, sr, hf, q⟩ := h
  obtain ⟨p, h1, hf⟩ := obind hf
  obtain ⟨ρ', h2, hf⟩ := obind hf
  cases hf
  exact ⟨ρ, S, m, p.1, p.2, er, sr, h1, fun v H1 m1 x1 s1 r1 => ⟨ρ, m1, p.2, p.1, ρ', er.mono sr x1, s1, r1, h2, fun σ' e' _ => q σ' H1 m1 x1 s1 e'⟩⟩
theorem ds_set (i : Nat) {x : Str} {p : Pos} (hN : X.N.Nodup) (hi : X.N[i]? = some x) (hx : Loc X.env.scope x) (ha : DE X a fa) (hs : swapsWith a (some (.Name x p)) pos.line X.env = pure false := by rfl) (hf : X.fn x = true ∨ X.env.scope.names.lookup x = some .local := by first | exact .inl rfl | exact .inr rfl | assumption) :
    DS X (.Assign [.Name x p] a pos) (mAsg fa (gN i)) := psw (ps_set hN hi hx ha hs hf) fun E σ H h => by
  obtain ⟨ρ, S, m, o, er, sr, hf, q⟩ := h
  obtain ⟨p, h1, hf⟩ := obind hf
  cases hf
  exact ⟨ρ, S, m, p.1, p.2, er, sr, h1, fun v H1 m1 x1 s1 r1 => q _ H1 m1 x1 s1 ((er.mono sr x1).set i (show RepO X.K H1 m1 (some p.1) (some v) from r1))⟩
theorem ds_asg {tg : Expr} (vs : List Nat) {gm : Gm} (ha : DE X a fa) (hg : DG X vs tg gm) (hs : swapsWithSole [tg] a pos.line X.env = pure false := by rfl) (hw : swappedStores [tg] a X.env = pure none := by rfl) (h1 : (assignEach [tg] X.env).map (·.2) = [assign tg X.env] := by rfl) :
    DS X (.Assign [tg] a pos) (mAsg fa gm) := psw (ps_asg ha hg hs hw h1) fun E σ H h => asg_use h
/-- a, b = c, d with plain local names -/
def mPar (i j : Nat) (as : As) : SM := fun ρ S => (as ρ S).bind fun p => match p.1 with | [x, y] => some (.nx ((ρ.set i (some x)).set j (some y)) p.2) | _ => none
theorem ds_par (i j : Nat) {x y : Str} {px py pt pt2 : Pos} {kt k2 : Nat} (hc : X.calm = true) (hN : X.N.Nodup) (hi : X.N[i]? = some x) (hj : X.N[j]? = some y) (hij : i ≠ j) (hx : X.env.scope.names.lookup x = some .local) (hy : X.env.scope.names.lookup y = some .local) (ha : DA X [a, b] ga)
    (hw : swappedStores [.Tuple [.Name x px, .Name y py] kt pt] (.Tuple [a, b] k2 pt2) X.env = pure (some [x, y]))
    (hs : swapsWithSole [.Tuple [.Name x px, .Name y py] kt pt] (.Tuple [a, b] k2 pt2) pos.line X.env = pure false := by rfl) : DS X (.Assign [.Tuple [.Name x px, .Name y py] kt pt] (.Tuple [a, b] k2 pt2) pos) (mPar i j ga) :=
  psw (ps_par hc hN hi hj hij hx hy ha.pa hw hs) fun E σ H h => by
    obtain ⟨ρ, S, m, o, er, sr, hf, q⟩ := h
    obtain ⟨p, h1, hf⟩ := obind hf
    have hl := ha.len _ _ _ _ h1
    refine ⟨ρ, S, m, p.1, p.2, er, sr, h1, fun us H1 m1 x1 s1 r1 => ?_⟩
    generalize p.1 = l at hf hl r1
    match l, hf, r1 with
    | [d1, d2], hf, .cons r1 (.cons r2 .nil) =>
      cases hf
      exact ⟨_, _, rfl, q _ H1 m1 x1 s1 (((er.mono sr x1).set i (show RepO X.K H1 m1 (some d1) (some _) from r1)).set j (show RepO X.K H1 m1 (some d2) (some _) from r2))⟩
/-- d[k] = v -/
def mPut (fv fd fk : Ex) : SM := fun ρ S => (fv ρ S).bind fun v => (fd ρ v.2).bind fun d => (fk ρ d.2).bind fun i => match d.1 with
  | .loc n => match i.2[n]? with
    | some (.dic kvs) => (keyOf i.1).bind fun kk => if kvs.length < sizeLine then some (.nx ρ (i.2.set n (.dic (putD kvs kk v.1)))) else none
    | _ => none
  | _ => none
theorem ds_put {v o i : Expr} {fv fo fi : Ex} {p : Pos} (hr : RG k X) (ho : DE X o fo) (hi : DE X i fi) (hv : DE X v fv) (hs : swapsWith v (some (.Subscript o i p)) pos.line X.env = pure false := by rfl) : DS X (.Assign [.Subscript o i p] v pos) (mPut fv fo fi) :=
  psw (ps_dput hr.hu1 ho hi hv hs) fun E σ H h => by
    obtain ⟨ρ, S, m, oo, er, sr, hf, q⟩ := h
    obtain ⟨p1, h1, hf⟩ := obind hf
    obtain ⟨p2, h2, hf⟩ := obind hf
    obtain ⟨p3, h3, hf⟩ := obind hf
    refine ⟨ρ, S, m, p1.1, p1.2, er, sr, h1, fun u1 H1 m1 x1 s1 r1 => ⟨ρ, p1.2, m1, p2.1, p2.2, er.mono sr x1, s1, h2, fun u2 H2 m2 x2 s2 r2 => ⟨ρ, p2.2, m2, p3.1, p3.2, (er.mono sr x1).mono s1 x2, s2, h3, fun u3 H3 m3 x3 s3 r3 => ?_⟩⟩⟩
    cases hp : p2.1 with
    | loc n =>
      rw [hp] at hf r2
      simp only at hf
      cases hn : p3.2[n]? with
      | none => rw [hn] at hf; cases hf
      | some cl =>
        rw [hn] at hf
        cases cl with
        | lst _ => cases hf
        | dic kvs =>
          obtain ⟨kk, hk, hf⟩ := obind hf
          by_cases hl : kvs.length < sizeLine
          · rw [if_pos hl] at hf; cases hf
            obtain ⟨a', ks, rfl, hm, e1, rk⟩ := s3.dic (r2.mono s2 x3) hn
            have r1' := (r1.mono s1 x2).mono s2 x3
            have x4 := Ext.put (o := HO.dK (putK ks kk u1)) s3 hm
            have s4 : StR X.K (upd H3 a' (.dK (putK ks kk u1))) m3 (p3.2.set n (.dic (putD kvs kk p1.1))) :=
              s3.put hm ⟨_, upd_same, Paired.mapP (putD_rep r1' rk) fun _ _ z => ⟨z.1, z.2.mono s3 x4⟩⟩
            refine ⟨a', _, rfl, ?_, q _ _ m3 (((x1.trans x2).trans x3).trans x4) s4 ((((er.mono sr x1).mono s1 x2).mono s2 x3).mono s3 x4)⟩
            rw [keyOf_rep r3 hk]
            exact DPut.k e1 (by rw [← Paired.len rk]; exact hl)
          · rw [if_neg hl] at hf; cases hf
    | _ => rw [hp] at hf; cases hf

/-! ### what is walked -/
abbrev Im := Env → Sto → Option (List D × (Sto → Bool) × Sto)
def Walks (K : PySem.W.Frag) (J : It) (H0 : Hp) (m0 : List Addr) (ds : List D) (chk : Sto → Bool) : Prop := ∀ (H : Hp) (m : List Addr) (S : Sto) (i : Nat), Ext H0 m0 H m → StR K H m S → chk S = true →
  (∀ d, ds[i]? = some d → J.go i H ∧ ∀ x H', J.yld i H x H' → ∃ m', Ext H m H' m' ∧ StR K H' m' S ∧ Rep K H' m' d x) ∧ (ds.length ≤ i → J.stop i H)
def tI (K : PySem.W.Frag) (f : Im) : TI := fun σ H R => ∃ ρ S m ds chk S', EnvR K H m ρ σ ∧ StR K H m S ∧ f ρ S = some (ds, chk, S') ∧ ∀ J H' m', Ext H m H' m' → StR K H' m' S' → Walks K J H' m' ds chk → R J H'
abbrev DI (X : Cx) (tg iter : Expr) (f : Im) : Prop := PI X tg iter (tI X.K f)
theorem piw {tg it : Expr} {t t' : TI} (h : PI X tg it t) (w : ∀ σ H R, t' σ H R → t σ H R) : PI X tg it t' := ⟨fun pins s σ H R I q => h.run pins s σ H R I (w σ H R q)⟩
theorem PI.or {tg it : Expr} {t t' : TI} (h : PI X tg it t) (h' : PI X tg it t') : PI X tg it (fun σ H R => t σ H R ∨ t' σ H R) := ⟨fun pins s σ H R I q => q.elim (h.run pins s σ H R I) (h'.run pins s σ H R I)⟩
/-- what stays: a tuple, a locked list; a list that the body leaves as it is -/
def seqI (d : D) (S : Sto) : Option (List D × (Sto → Bool) × Sto) := match d with
  | .tup ds => some (ds, fun _ => true, S)
  | .rol ds => some (ds, fun _ => true, S)
  | .loc n => match S[n]? with
    | some (.lst ds) => some (ds, (fun S' => match S'[n]? with | some (.lst es) => decide (es = ds) | _ => false), S)
    | _ => none
  | _ => none
def mI (f : Ex) : Im := fun ρ S => (f ρ S).bind fun p => seqI p.1 p.2
theorem walks_tup {K : PySem.W.Frag} {H0 : Hp} {m0 : List Addr} {S0 : Sto} {a' : Addr} {vs : List V} {ds : List D} (s0 : StR K H0 m0 S0) (hs : SqT K H0 a' vs) (rs : RepL K H0 m0 ds vs) : Walks K (Itt K a') H0 m0 ds fun _ => true := fun H m S i x s _ => by
  have hs' := x.sqT s0 hs
  have rs' := rs.mono s0 x
  refine ⟨fun d hd => ?_, fun h => ⟨vs, hs', by rw [← rs.length]; exact h⟩⟩
  obtain ⟨v, h1, h2⟩ := rs'.get hd
  refine ⟨⟨vs, v, hs', h1⟩, fun u H' y => ?_⟩
  obtain ⟨rfl, y⟩ := y
  have := y vs hs'
  rw [h1] at this; cases this
  exact ⟨m, Ext.refl _ _, s, h2⟩
theorem walks_rol {K : PySem.W.Frag} {H0 : Hp} {m0 : List Addr} {S0 : Sto} {a' : Addr} {vs : List V} {ds : List D} (s0 : StR K H0 m0 S0) (hs : RoL K H0 a' vs) (rs : RepL K H0 m0 ds vs) : Walks K (Itl K a') H0 m0 ds fun _ => true := fun H m S i x s _ => by
  have hs' := (x.roL s0 hs).sq
  have rs' := rs.mono s0 x
  refine ⟨fun d hd => ?_, fun h => ⟨vs, hs', by rw [← rs.length]; exact h⟩⟩
  obtain ⟨v, h1, h2⟩ := rs'.get hd
  refine ⟨⟨vs, v, hs', h1⟩, fun u H' y => ?_⟩
  obtain ⟨rfl, y⟩ := y
  have := y vs hs'
  rw [h1] at this; cases this
  exact ⟨m, Ext.refl _ _, s, h2⟩
theorem walks_loc {K : PySem.W.Frag} {H0 : Hp} {m0 : List Addr} {a' : Addr} {n : Nat} {ds : List D} (hm : m0[n]? = some a') : Walks K (Itl K a') H0 m0 ds fun S' => match S'[n]? with | some (.lst es) => decide (es = ds) | _ => false := fun H m S i x s hc => by
  have hS : S[n]? = some (.lst ds) := by
    dsimp only at hc
    cases hn : S[n]? with
    | none => rw [hn] at hc; cases hc
    | some cl =>
      rw [hn] at hc
      cases cl with
      | dic _ => cases hc
      | lst es => rw [of_decide_eq_true hc]
  obtain ⟨a2, vs, ea, hm2, e1, rs⟩ := s.lst (.loc (x.pre n a' hm)) hS
  cases ea
  have hs' : SqL K H a' vs := SqL.of e1
  refine ⟨fun d hd => ?_, fun h => ⟨vs, hs', by rw [← rs.length]; exact h⟩⟩
  obtain ⟨v, h1, h2⟩ := rs.get hd
  refine ⟨⟨vs, v, hs', h1⟩, fun u H' y => ?_⟩
  obtain ⟨rfl, y⟩ := y
  have := y vs hs'
  rw [h1] at this; cases this
  exact ⟨m, Ext.refl _ _, s, h2⟩
theorem di_seq {tg : Expr} (ha : DE X a fa) : DI X tg a (mI fa) := piw (PI.or (pi_tup ha) (pi_list ha)) fun σ H R h => by
  obtain ⟨ρ, S, m, ds, chk, S', er, sr, hf, q⟩ := h
  obtain ⟨p, h1, hf⟩ := obind hf
  cases hp : p.1 with
  | tup es =>
    rw [hp] at hf; cases hf
    refine .inl ⟨ρ, S, m, p.1, p.2, er, sr, h1, fun v H1 m1 x1 s1 r1 => ?_⟩
    rw [hp] at r1
    cases r1 with
    | tup hs rs => exact ⟨_, rfl, ⟨_, hs⟩, q _ H1 m1 x1 s1 (walks_tup s1 hs rs)⟩
  | rol es =>
    rw [hp] at hf; cases hf
    refine .inr ⟨ρ, S, m, p.1, p.2, er, sr, h1, fun v H1 m1 x1 s1 r1 => ?_⟩
    rw [hp] at r1
    cases r1 with
    | rol hs rs => exact ⟨_, rfl, ⟨_, hs.sq⟩, q _ H1 m1 x1 s1 (walks_rol s1 hs rs)⟩
  | loc n =>
    rw [hp] at hf
    simp only [seqI] at hf
    cases hn : p.2[n]? with
    | none => rw [hn] at hf; cases hf
    | some cl =>
      rw [hn] at hf
      cases cl with
      | dic _ => cases hf
      | lst es =>
        cases hf
        refine .inr ⟨ρ, S, m, p.1, p.2, er, sr, h1, fun v H1 m1 x1 s1 r1 => ?_⟩
        rw [hp] at r1
        obtain ⟨a', vs, rfl, hm, e1, rs⟩ := s1.lst r1 hn
        exact ⟨a', rfl, ⟨_, SqL.of e1⟩, q _ H1 m1 x1 s1 (walks_loc hm)⟩
  | _ => rw [hp] at hf; cases hf
/-- range -/
def rngL (lo : Int) : Nat → List D
  | 0 => []
  | n + 1 => .int lo :: rngL (lo + 1) n
theorem rngL_get : ∀ (n : Nat) (lo : Int) (i : Nat) (d : D), (rngL lo n)[i]? = some d → i < n ∧ d = .int (lo + i)
  | 0, _, _, _, h => by simp [rngL] at h
  | n + 1, lo, 0, d, h => by simp [rngL] at h; subst h; simp
  | n + 1, lo, i + 1, d, h => by
    have := rngL_get n (lo + 1) i d (by simpa [rngL] using h)
    refine ⟨by omega, ?_⟩
    rw [this.2]
    congr 1
    omega
theorem rngL_len : ∀ (n : Nat) (lo : Int), (rngL lo n).length = n
  | 0, _ => rfl
  | n + 1, lo => by show (rngL (lo + 1) n).length + 1 = n + 1; rw [rngL_len n]
theorem walks_rng {K : PySem.W.Frag} {H0 : Hp} {m0 : List Addr} (lo : Int) (n : Nat) : Walks K (Itr lo n) H0 m0 (rngL lo n) fun _ => true := fun H m S i x s _ => by
  refine ⟨fun d hd => ?_, fun h => by rw [rngL_len] at h; exact h⟩
  obtain ⟨h1, rfl⟩ := rngL_get n lo i d hd
  refine ⟨h1, fun u H' y => ?_⟩
  obtain ⟨rfl, rfl⟩ := y
  exact ⟨m, Ext.refl _ _, s, .int _⟩
def rngOk (j : Int) : Bool := decide (-(2 ^ 62) ≤ j) && decide (j < 2 ^ 62)
theorem rngOk_of {j : Int} (h : rngOk j = true) : -(2 ^ 62) ≤ j ∧ j < 2 ^ 62 := by
  unfold rngOk at h
  rw [Bool.and_eq_true, decide_eq_true_eq, decide_eq_true_eq] at h
  exact h
def mR1 (as : As) : Im := fun ρ S => (as ρ S).bind fun p => match p.1 with | [.int j] => if rngOk j = true then some (rngL 0 j.toNat, fun _ => true, p.2) else none | _ => none
def mR2 (as : As) : Im := fun ρ S => (as ρ S).bind fun p => match p.1 with | [.int i, .int j] => if rngOk i = true ∧ rngOk j = true then some (rngL i (j - i).toNat, fun _ => true, p.2) else none | _ => none
theorem di_r1 {tg : Expr} {p : Pos} (hg : Gl X "range") (hm : X.mg "range" = none) (ha : DA X [a] ga) (hs : starEach [a] X.env = [(false, eval a X.env)] := by rfl) : DI X tg (.Call (.Name "range" p) [a] [] pos) (mR1 ga) := piw (pi_range1 hg hm ha.pa hs) fun σ H R h => by
  obtain ⟨ρ, S, m, ds, chk, S', er, sr, hf, q⟩ := h
  obtain ⟨p, h1, hf⟩ := obind hf
  refine ⟨ρ, S, m, p.1, p.2, er, sr, h1, fun us H1 m1 x1 s1 r1 => ?_⟩
  generalize p.1 = l at hf r1
  match l, hf, r1 with
  | [.int j], hf, .cons (.int _) .nil =>
    simp only at hf
    by_cases hj : rngOk j = true
    · rw [if_pos hj] at hf; cases hf
      exact ⟨j, rfl, (rngOk_of hj).1, (rngOk_of hj).2, q _ H1 m1 x1 s1 (walks_rng 0 j.toNat)⟩
    · rw [if_neg hj] at hf; cases hf
theorem di_r2 {tg : Expr} {p : Pos} (hg : Gl X "range") (hm : X.mg "range" = none) (ha : DA X [a, b] ga) (hs : starEach [a, b] X.env = [(false, eval a X.env), (false, eval b X.env)] := by rfl) (hs2 : starEach [b] X.env = [(false, eval b X.env)] := by rfl) : DI X tg (.Call (.Name "range" p) [a, b] [] pos) (mR2 ga) := piw (pi_range2 hg hm ha.pa hs hs2) fun σ H R h => by
  obtain ⟨ρ, S, m, ds, chk, S', er, sr, hf, q⟩ := h
  obtain ⟨p, h1, hf⟩ := obind hf
  refine ⟨ρ, S, m, p.1, p.2, er, sr, h1, fun us H1 m1 x1 s1 r1 => ?_⟩
  generalize p.1 = l at hf r1
  match l, hf, r1 with
  | [.int i, .int j], hf, .cons (.int _) (.cons (.int _) .nil) =>
    simp only at hf
    by_cases hj : rngOk i = true ∧ rngOk j = true
    · rw [if_pos hj] at hf; cases hf
      exact ⟨i, j, rfl, ⟨(rngOk_of hj.1).1, (rngOk_of hj.1).2, (rngOk_of hj.2).1, (rngOk_of hj.2).2⟩, q _ H1 m1 x1 s1 (walks_rng i _)⟩
    · rw [if_neg hj] at hf; cases hf

/-! ### for -/
def forL (g : Gm) (chk : Sto → Bool) (body : SM) : List D → Env → Sto → Option Out
  | [], ρ, S => if chk S = true then some (.nx ρ S) else none
  | d :: ds, ρ, S => if chk S = true then (g d ρ).bind fun ρ1 => (body ρ1 S).bind fun o => match o with
      | .nx ρ2 S2 => forL g chk body ds ρ2 S2
      | .ct ρ2 S2 => forL g chk body ds ρ2 S2
      | .bk ρ2 S2 => some (.nx ρ2 S2)
      | .rt d S2 => some (.rt d S2)
    else none
def mFor (it : Im) (g : Gm) (body : SM) : SM := fun ρ S => (it ρ S).bind fun p => forL g p.2.1 body p.1 ρ p.2.2
theorem ds_for {tg iter : Expr} {body : List Stmt} {fi : Im} {gm : Gm} (vs : List Nat) (hp : PassesOwn (model X.prog X.w) X.A X.env X.xe) (hc : X.calm = true) (hi : DI X tg iter fi) (hg : DG X vs tg gm) (hb : DSs X body f) (hs : ∀ x, foldedSetIterable iter X.env x = pure x := by intro _; rfl) :
    DS X (.For tg iter body [] pos) (mFor fi gm f) := psw (ps_for hp hc hi hg hb hs) fun E σ H h => by
  obtain ⟨ρ, S, m, o, er, sr, hf, q⟩ := h
  obtain ⟨p, h1, hf⟩ := obind hf
  refine ⟨ρ, S, m, p.1, p.2.1, p.2.2, er, sr, h1, fun J H1 m1 x1 s1 wk => ?_⟩
  have q1 := q.mono x1
  refine ⟨fun i c σ' H' => ∃ ρ' S' m', EnvR X.K H' m' ρ' σ' ∧ StR X.K H' m' S' ∧ Ext H1 m1 H' m' ∧ i + c = p.1.length ∧ forL gm p.2.1 f (p.1.drop i) ρ' S' = some o,
    ⟨p.1.length, ρ, p.2.2, m1, er.mono sr x1, s1, Ext.refl _ _, by omega, hf⟩, fun i c σ' H' hW => ?_⟩
  obtain ⟨ρ', S', m', er', sr', x', hl, hf'⟩ := hW
  by_cases hlt : i < p.1.length
  · rw [List.drop_eq_getElem_cons hlt] at hf'
    have hck : p.2.1 S' = true := by
      by_cases hck : p.2.1 S' = true
      · exact hck
      · simp only [forL, if_neg hck] at hf'; cases hf'
    simp only [forL, if_pos hck] at hf'
    obtain ⟨ρ1, g1, hf'⟩ := obind hf'
    obtain ⟨ob, b1, hf'⟩ := obind hf'
    obtain ⟨hgo, hyl⟩ := (wk H' m' S' i x' sr' hck).1 _ (List.getElem?_eq_getElem hlt)
    refine .inr ⟨hgo, fun σ2 H2 => ∃ ρ2 S2 m2, EnvR X.K H2 m2 ρ2 σ2 ∧ StR X.K H2 m2 S2 ∧ Ext H1 m1 H2 m2 ∧ forL gm p.2.1 f (p.1.drop (i + 1)) ρ2 S2 = some o, fun σ2 H2 hN => ?_, fun x H2 y => ?_⟩
    · obtain ⟨ρ2, S2, m2, a1, a2, a3, a4⟩ := hN
      exact ⟨c - 1, by omega, ρ2, S2, m2, a1, a2, a3, by omega, a4⟩
    · obtain ⟨m2, x2, s2, r2⟩ := hyl x H2 y
      refine ⟨ρ', m2, S', _, ρ1, er'.mono sr' x2, s2, r2, g1, fun σ3 e3 _ => ⟨ρ1, S', m2, ob, e3, s2, b1, ?_⟩⟩
      have xx := x'.trans x2
      cases ob with
      | nx ρ3 S3 => exact fun σ4 H4 m4 x4 s4 e4 => ⟨ρ3, S3, m4, e4, s4, xx.trans x4, hf'⟩
      | ct ρ3 S3 => exact fun σ4 H4 m4 x4 s4 e4 => ⟨ρ3, S3, m4, e4, s4, xx.trans x4, hf'⟩
      | bk ρ3 S3 => cases hf'; exact fun σ4 H4 m4 x4 s4 e4 => q1 σ4 H4 m4 (xx.trans x4) s4 e4
      | rt d3 S3 => cases hf'; exact fun v4 H4 m4 x4 s4 r4 => q1 v4 H4 m4 (xx.trans x4) s4 r4
  · rw [List.drop_eq_nil_of_le (by omega)] at hf'
    have hck : p.2.1 S' = true := by
      by_cases hck : p.2.1 S' = true
      · exact hck
      · simp only [forL, if_neg hck] at hf'; cases hf'
    simp only [forL, if_pos hck] at hf'
    cases hf'
    exact .inl ⟨(wk H' m' S' i x' sr' hck).2 (by omega), q1 σ' H' m' x' sr' er'⟩

/-! ### comprehensions -/
def mYes : Tx := fun _ S => some (true, S)
abbrev DTs (X : Cx) (ifs : List Expr) (t : Tx) : Prop := PTs X ifs (tT X.K t)
theorem dts_nil : DTs X [] mYes := ⟨fun pins s σ H Q I h => pts_nil.run pins s σ H Q I (by
  obtain ⟨ρ, S, m, b, S', er, sr, hf, q⟩ := h
  cases hf
  exact q H m (Ext.refl _ _) sr)⟩
theorem dts_one {c : Expr} (h : DT X c ta) : DTs X [c] ta := pts_one h
def compL (g : Gm) (chk : Sto → Bool) (t : Tx) (elt : Ex) (ρ : Env) : List D → List D → Sto → Option (List D × Sto)
  | [], acc, S => if chk S = true then some (acc, S) else none
  | d :: ds, acc, S => if chk S = true then (g d ρ).bind fun ρ1 => (t ρ1 S).bind fun b => if b.1 = true then (elt ρ1 b.2).bind fun y => if acc.length < sizeLine then compL g chk t elt ρ ds (acc ++ [y.1]) y.2 else none
      else compL g chk t elt ρ ds acc b.2
    else none
def wipeE (ρ : Env) : List Nat → Env
  | [] => ρ
  | v :: vs => (wipeE ρ vs).set v none
def mComp (vs : List Nat) (it : Im) (g : Gm) (t : Tx) (elt : Ex) : Ex := fun ρ S => (it ρ S).bind fun p => (compL g p.2.1 t elt (wipeE ρ vs) p.1 [] p.2.2).bind fun q => some (.loc q.2.length, q.2 ++ [.lst q.1])
theorem wipeE_rep {K : PySem.W.Frag} {H : Hp} {m : List Addr} {ρ : Env} {σ : L2.St} (h : EnvR K H m ρ σ) : ∀ vs : List Nat, EnvR K H m (wipeE ρ vs) (wipe σ vs)
  | [] => h
  | v :: vs => (wipeE_rep h vs).set v trivial
theorem comp_use {vs : List Nat} {fi : Im} {gm : Gm} {tt : Tx} {fe : Ex} {σ : L2.St} {H : Hp} {Q : VK} {K : PySem.W.Frag} (h : tE K (mComp vs fi gm tt fe) σ H Q) : tLc (tI K fi) (tGm vs K gm) (tT K tt) (tE K fe) vs σ H Q := by
  obtain ⟨ρ, S, m, d, S', er, sr, hf, q⟩ := h
  obtain ⟨p, h1, hf⟩ := obind hf
  obtain ⟨pf, h2, hf⟩ := obind hf
  cases hf
  refine ⟨ρ, S, m, p.1, p.2.1, p.2.2, er, sr, h1, fun J H1 m1 x1 s1 wk Dd hD => ?_⟩
  have hDm : Dd ∉ m1 := s1.out hD
  have e1 := er.mono sr x1
  refine ⟨fun i c H' => ∃ acc vs' S' m', StR K H' m' S' ∧ Ext H1 m1 H' m' ∧ H' Dd = some (.lst vs') ∧ RepL K H' m' acc vs' ∧ Dd ∉ m' ∧ i + c = p.1.length ∧ compL gm p.2.1 tt fe (wipeE ρ vs) (p.1.drop i) acc S' = some pf,
    ⟨p.1.length, [], [], p.2.2, m1, s1.new1 hD, Ext.new1 hD, upd_same, .nil, hDm, by omega, h2⟩, fun i c H' hW => ?_⟩
  obtain ⟨acc, vs', S', m', sr', x', hd', ra, hn', hl, hf'⟩ := hW
  by_cases hlt : i < p.1.length
  · rw [List.drop_eq_getElem_cons hlt] at hf'
    have hck : p.2.1 S' = true := by
      by_cases hck : p.2.1 S' = true
      · exact hck
      · simp only [compL, if_neg hck] at hf'; cases hf'
    simp only [compL, if_pos hck] at hf'
    obtain ⟨ρ1, g1, hf'⟩ := obind hf'
    obtain ⟨bb, b1, hf'⟩ := obind hf'
    obtain ⟨hgo, hyl⟩ := (wk H' m' S' i x' sr' hck).1 _ (List.getElem?_eq_getElem hlt)
    refine .inr ⟨hgo, fun H2 => ∃ acc2 vs2 S2 m2, StR K H2 m2 S2 ∧ Ext H1 m1 H2 m2 ∧ H2 Dd = some (.lst vs2) ∧ RepL K H2 m2 acc2 vs2 ∧ Dd ∉ m2 ∧ compL gm p.2.1 tt fe (wipeE ρ vs) (p.1.drop (i + 1)) acc2 S2 = some pf, fun H2 hN => ?_, fun x H2 y => ?_⟩
    · obtain ⟨acc2, vs2, S2, m2, a1, a2, a3, a4, a5, a6⟩ := hN
      exact ⟨c - 1, by omega, acc2, vs2, S2, m2, a1, a2, a3, a4, a5, by omega, a6⟩
    · obtain ⟨m2, x2, s2, r2⟩ := hyl x H2 y
      have out : ∀ {Ha Hb : Hp} {ma mb : List Addr}, Ha Dd = some (.lst vs') → Dd ∉ ma → Ext Ha ma Hb mb → Hb Dd = some (.lst vs') ∧ Dd ∉ mb := fun {Ha Hb ma mb} h1 h2 z => ⟨z.keep Dd _ h1 h2, fun hm => by
        rw [z.new Dd hm h2] at h1; cases h1⟩
      obtain ⟨d2, n2⟩ := out hd' hn' x2
      have ew : EnvR K H2 m2 (wipeE ρ vs) (wipe σ vs) := wipeE_rep ((e1.mono s1 x').mono sr' x2) vs
      refine ⟨wipeE ρ vs, m2, S', _, ρ1, ew, s2, r2, g1, fun σ3 e3 w3 => ⟨?_, ρ1, S', m2, bb.1, bb.2, e3, s2, b1, fun H4 m4 x4 s4 => ?_⟩⟩
      · rw [w3]
        refine List.ext_getElem? fun j => ?_
        rw [wipe_get, wipe_get]
        by_cases hj : j ∈ vs
        · rw [if_pos hj, if_pos hj]
          cases σ[j]? <;> rfl
        · rw [if_neg hj]
      · obtain ⟨d4, n4⟩ := out d2 n2 x4
        have xx := (x'.trans x2).trans x4
        cases hb : bb.1 with
        | false =>
          rw [hb] at hf'
          exact iteF ⟨acc, vs', bb.2, m4, s4, xx, d4, (ra.mono sr' x2).mono s2 x4, n4, hf'⟩
        | true =>
          rw [hb] at hf'
          obtain ⟨yy, y1, hf'⟩ := obind hf'
          refine iteT ⟨ρ1, bb.2, m4, yy.1, yy.2, e3.mono s2 x4, s4, y1, fun v H5 m5 x5 s5 r5 => ?_⟩
          obtain ⟨d5, n5⟩ := out d4 n4 x5
          by_cases hz : acc.length < sizeLine
          · rw [if_pos hz] at hf'
            have ra5 := ((ra.mono sr' x2).mono s2 x4).mono s4 x5
            have xx5 := xx.trans x5
            refine ⟨vs', d5, by rw [← ra.length]; exact hz, acc ++ [yy.1], _, yy.2, m5, s5.off d5 (flex_lst _) n5, ⟨xx5.pre, fun b ob hb1 hb2 => ?_, xx5.new⟩, upd_same, ?_, n5, hf'⟩
            · rw [upd_ne (ne_of_none hb1 hD)]
              exact xx5.keep b ob hb1 hb2
            · exact (ra5.app (.cons r5 .nil)).off d5 (flex_lst _)
          · rw [if_neg hz] at hf'; cases hf'
  · rw [List.drop_eq_nil_of_le (by omega)] at hf'
    have hck : p.2.1 S' = true := by
      by_cases hck : p.2.1 S' = true
      · exact hck
      · simp only [compL, if_neg hck] at hf'; cases hf'
    simp only [compL, if_pos hck] at hf'
    cases hf'
    refine .inl ⟨(wk H' m' S' i x' sr' hck).2 (by omega), ?_⟩
    have hpre : ∀ (n : Nat) (a : Addr), m'[n]? = some a → (m' ++ [Dd])[n]? = some a := fun n a e => by rw [List.getElem?_append_left (List.getElem?_eq_some_iff.mp e).1]; exact e
    have xf : Ext H1 m1 H' (m' ++ [Dd]) := ⟨fun n a e => hpre n a (x'.pre n a e), x'.keep, fun a ha hna => by
      rcases List.mem_append.mp ha with z | z
      · exact x'.new a z hna
      · rw [List.mem_singleton.mp z]; exact hD⟩
    refine q _ H' (m' ++ [Dd]) (x1.trans xf) (sr'.adopt hn' ⟨vs', hd', ra⟩) (.loc ?_)
    rw [← sr'.len, List.getElem?_concat_length]
theorem de_comp {elt tg iter : Expr} {ifs : List Expr} {scope : Scope} (own : List (Str × Nat)) {fi : Im} {gm : Gm} {tt : Tx} {fe : Ex} (vs : List Nat) (hv : own.map (·.2) = vs) (hc : X.calm = true) (hN : X.N.Nodup) (hi : DI X tg iter fi) (ok : blkC X.N X.env.scope scope own = true)
    (hg : ∀ (s : Shared) (H : Hp) (C : Addr) (cl : List (Str × Addr)) (fp : List Addr), DG (X.blk s H scope (compEnvC scope cl C X.env) fp) vs tg gm) (ht : ∀ (s : Shared) (H : Hp) (C : Addr) (cl : List (Str × Addr)) (fp : List Addr), DTs (X.blk s H scope (compEnvC scope cl C X.env) fp) ifs tt)
    (he : ∀ (s : Shared) (H : Hp) (C : Addr) (cl : List (Str × Addr)) (fp : List Addr), DE (X.blk s H scope (compEnvC scope cl C X.env) fp) elt fe) (hs : ∀ x, foldedSetIterable iter X.env x = pure x := by intro _; rfl) :
    DE X (.ListComp elt [⟨tg, iter, ifs, 0⟩] scope pos) (mComp vs fi gm tt fe) := by
  subst hv
  exact pew (pe_lc hc hN hi (blkOk_by ok) hg ht he hs) fun σ H Q h => comp_use h
theorem ds_comp (i : Nat) {y : Str} {py spos : Pos} {elt tg iter : Expr} {ifs : List Expr} {scope : Scope} (own : List (Str × Nat)) {fi : Im} {gm : Gm} {tt : Tx} {fe : Ex} (vs : List Nat) (hv : own.map (·.2) = vs) (hc : X.calm = true) (hN : X.N.Nodup) (hy : X.N[i]? = some y) (hyl : X.env.scope.names.lookup y = some .local)
    (hsw : swapsWith (.ListComp elt [⟨tg, iter, ifs, 0⟩] scope pos) (some (.Name y py)) spos.line X.env = pure true) (hi : DI X tg iter fi) (ok : blkC X.N X.env.scope scope own = true)
    (hg : ∀ (s : Shared) (H : Hp) (C : Addr) (cl : List (Str × Addr)) (fp : List Addr), DG (X.blk s H scope (compEnvC scope cl C X.env) fp) vs tg gm) (ht : ∀ (s : Shared) (H : Hp) (C : Addr) (cl : List (Str × Addr)) (fp : List Addr), DTs (X.blk s H scope (compEnvC scope cl C X.env) fp) ifs tt)
    (he : ∀ (s : Shared) (H : Hp) (C : Addr) (cl : List (Str × Addr)) (fp : List Addr), DE (X.blk s H scope (compEnvC scope cl C X.env) fp) elt fe) (hs : ∀ x, foldedSetIterable iter X.env x = pure x := by intro _; rfl) :
    DS X (.Assign [.Name y py] (.ListComp elt [⟨tg, iter, ifs, 0⟩] scope pos) spos) (mAsg (mComp vs fi gm tt fe) (gN i)) := by
  subst hv
  refine psw (ps_setLc (i := i) (wi := tI X.K fi) (g := tGm (own.map (·.2)) X.K gm) (tt := tT X.K tt) (te := tE X.K fe) hc hN hy hyl hsw hi (blkOk_by ok) hg ht he hs) fun E σ H h => ?_
  obtain ⟨ρ, S, m, o, er, sr, hf, q⟩ := h
  obtain ⟨p, h1, hf⟩ := obind hf
  cases hf
  exact comp_use (Q := fun x H1 => gName i x σ H1 E.nx) ⟨ρ, S, m, p.1, p.2, er, sr, h1, fun v H1 m1 x1 s1 r1 => q _ H1 m1 x1 s1 ((er.mono sr x1).set i (show RepO X.K H1 m1 (some p.1) (some v) from r1))⟩
end
end DD

/-! enumerate of tuples, sorted pairs, dicts made, ranges as lists. -/
namespace DD
open PySem PySem.Spec PyProof.Rows L2

/-! ### enumerate -/
theorem enum_new1 {v : Value} {ob : Obj} {P0 : Heap → Prop} (B : Begins v ob P0) :
    Meets (Builtin.«enumerate.__new__» ⟨[.type "enumerate", v], []⟩) (fun _ R s => P0 s.heap ∧
      R (.ok (.ret (.ref (s.heap.push ob).objs.size))) { s with heap := (s.heap.push ob).push { cls := .type "enumerate", data := .fields #[.none, .bool false, .ref s.heap.objs.size, rawInt 0, .none, .none] } }) :=
  .of_wp fun prog w A R s hh => by
    obtain ⟨h0, gg, dd, tt, oo⟩ := s
    obtain ⟨ha, hb⟩ := hh
    have hsub := sub_enumerate
    have qq : ∀ {A' : Around} {E : Value → Shared → Prop} {Q : Value → Shared → Prop}, Q (.ref h0.objs.size) ⟨h0.push ob, gg, dd, tt, oo⟩ → wpAny (model prog w) A' (pyIter v) Q E ⟨h0, gg, dd, tt, oo⟩ := fun z => B.iter prog w _ _ ⟨h0, gg, dd, tt, oo⟩ _ ha z
    wp_walk using qq
    refine wpAny_stack_any fun stk => wpAny_pure ?_
    split
    · rename_i c0 _ _ _ _ _
      cases (c0 == Value.type "enumerate") <;> (wp_walk using qq; exact ⟨_, rfl, hb⟩)
    · wp_walk using qq; exact ⟨_, rfl, hb⟩
section
variable {prog : Program} {w : World} {A : Around} {E : Value → Shared → Prop} {s : Shared}
theorem call_enum1 {v : Value} {ob : Obj} {P0 : Heap → Prop} {Q : Value → Shared → Prop} (B : Begins v ob P0) (h0 : P0 s.heap)
    (hq : ∀ h', IsEnum h' (s.heap.objs.size + 1) s.heap.objs.size 0 .none → h'.get? s.heap.objs.size = some ob → (∀ b o, s.heap.get? b = some o → h'.get? b = some o) → Q (.ref (s.heap.objs.size + 1)) { s with heap := h' }) :
    wpAny (model prog w) A (call (.type "enumerate") [v]) Q E s := by
  have hz : (s.heap.push ob).objs.size = s.heap.objs.size + 1 := Heap.size_push ..
  refine callType_new F.called_enumerate (by decide) (F.typeCall_enumerate_1 _) (F.newCall_enumerate_1 _) (fun obj => F.args_object_init_2 obj _) F.entry_enumerate_new (enum_new1 B) ⟨h0, ?_⟩
  have he : IsEnum ((s.heap.push ob).push { cls := .type "enumerate", data := .fields #[.none, .bool false, .ref s.heap.objs.size, rawInt 0, .none, .none] }) (s.heap.objs.size + 1) s.heap.objs.size 0 .none := by
    have z := Heap.get?_push_size (s.heap.push ob) (o := { cls := .type "enumerate", data := .fields #[.none, .bool false, .ref s.heap.objs.size, rawInt 0, .none, .none] }) rfl
    rw [hz] at z; exact z
  have fin := hq _ he (Heap.get?_push_of_some _ (Heap.get?_push_size _ B.free)) fun b o z => Heap.get?_push_of_some _ (Heap.get?_push_of_some _ z)
  show _ ∧ _
  rw [hz]
  exact ⟨⟨_, he, rfl⟩, fin⟩
end
/-- the tuple at a, its items with their numbers -/
def IteT (K : PySem.W.Frag) (a : Addr) : It :=
  ⟨fun i H => ∃ (xs : List V) (x : V), SqT K H a xs ∧ xs[i]? = some x, fun i H v H' => ∃ T x, v = .ref T ∧ H T = none ∧ H' = upd H T (.tup [.int (i : Nat), x]) ∧ ∀ xs, SqT K H a xs → xs[i]? = some x, fun i H => ∃ xs : List V, SqT K H a xs ∧ xs.length ≤ i⟩
theorem turn_enumT {P : Program} {w : World} {K : PySem.W.Frag} {elts : List Expr} {kk : Nat} {tpos : Pos} (a e it : Addr) :
    Turn P w K (.Tuple elts kk tpos) (IteT K a) [e, it] e (fun i h => (∃ old, IsEnum h e it ((i : Nat) : Int) old) ∧ h.IsTupleIter it a i ∧ e ≠ it ∧ a ≠ it ∧ a ≠ e) where
  mem := by simp
  obj := fun i h st b hb => by
    obtain ⟨⟨old, hen⟩, hit, _⟩ := st
    obtain ⟨o, ho, _, hd⟩ := hit
    have e' : b = e ∨ b = it := by simpa using hb
    rcases e' with z | z
    · rw [z]; exact ⟨_, hen, fun v q => by cases q⟩
    · rw [z]; exact ⟨o, ho, fun v q => by rw [hd] at q; cases q⟩
  keep := fun i h h' st k => by
    obtain ⟨⟨old, hen⟩, hit, hne, h1, h2⟩ := st
    exact ⟨⟨old, k e (by simp) _ hen⟩, hit.at fun o q => k it (by simp) o q, hne, h1, h2⟩
  item := by
    intro X hP hw hK hc i pins s σ H E I hf st hg
    subst hP hw hK
    obtain ⟨⟨old, hen⟩, hit, hne, hai, hae⟩ := st
    obtain ⟨xs, x, hq, hx⟩ := hg
    obtain ⟨its, rv, p, hz⟩ := I.tuple hq
    obtain ⟨u, hu, ru⟩ := rv.get hx
    have hel : e < s.heap.objs.size := Heap.lt_size hen
    have hil : it < s.heap.objs.size := by obtain ⟨_, q, _⟩ := hit; exact Heap.lt_size q
    have hd0 : X.A.in1.handled = none := I.ok.hd hc
    have hlt : i < its.toArray.size := by rw [List.size_toArray]; exact (List.getElem?_eq_some_iff.mp hu).1
    refine wpAny_pyNext_enum_itemD (Draws.tuple hd0 it a hai its.toArray) hen ⟨hit, p⟩ hlt hne (by simp [hne, Ne.symm hae]) fun y h' tk hy ho st' hT hsz hk => ?_
    have hyu : y = u := by
      have z : its[i]? = some y := by simpa using hy
      rw [hu] at z; exact (Option.some.inj z).symm
    subst hyu
    refine ⟨_, rfl, wpAny_letOwnedTupleGo_enum (s := { s with heap := h', toks := tk + 1 }) ho fun h'' he' sb => ?_⟩
    have hT2 : h''.get? s.heap.objs.size = some { cls := .type "tuple", data := .seq #[.int i tk, y] } := (sb.2 _ (Nat.ne_of_gt hel)).trans hT
    have nw : ObjOk X.prog X.w (upd H s.heap.objs.size (.tup [.int (i : Nat), x])) h'' s.heap.objs.size (.tup [.int (i : Nat), x]) := by
      refine ⟨by show 2 ≤ sizeLine; decide, [.int i tk, y], .cons ⟨_, rfl⟩ (.cons ru .nil), ⟨_, hT2, rfl, _, rfl⟩⟩
    have I1 : Inv X pins σ (upd H s.heap.objs.size (.tup [.int (i : Nat), x])) { s with heap := h'', toks := tk + 1 } := by
      refine I.turnedNew (ch := [e, it]) (fun b ob hb q => ?_) hf (Nat.le_refl _) nw
      have b1 : b ≠ e := fun z => hb (by simp [z])
      have b2 : b ≠ it := fun z => hb (by simp [z])
      exact (sb.2 b b1).trans (hk b ob b1 b2 q)
    refine ⟨.ref s.heap.objs.size, _, I1, rfl, ⟨_, x, rfl, I.hok.fresh (Nat.le_refl _), rfl, fun ys hy => by rw [I.tuple_inj hy hq]; exact hx⟩, ⟨⟨y, ?_⟩, st'.1.at fun o q => (sb.2 it (Ne.symm hne)).trans q, hne, hai, hae⟩, fun b hb => ?_⟩
    · rw [show ((i + 1 : Nat) : Int) = (i : Int) + 1 by omega]; exact he'
    · have hb' : b < s.heap.objs.size := by
        have e' : b = e ∨ b = it := by simpa using hb
        rcases e' with z | z <;> (rw [z]; assumption)
      rw [upd_ne (Nat.ne_of_lt hb')]
      exact (hf b hb).1
  done := by
    intro X hP hw hK hc i pins s σ H E I hf st hg
    subst hP hw hK
    obtain ⟨⟨old, hen⟩, hit, hne, hai, hae⟩ := st
    obtain ⟨xs, hq, hx⟩ := hg
    obtain ⟨its, rv, p, hz⟩ := I.tuple hq
    obtain ⟨f0, f1, f2, f3, f4, f5⟩ := hf it (by simp)
    have hl := rv.length
    have hd0 : X.A.in1.handled = none := I.ok.hd hc
    have D : Draws X.prog X.w X.A.in1 it [it, a] i (fun _ _ => True) (fun j h => j = i ∧ h.IsTupleIter it a i ∧ h.IsTuple a its.toArray) := by
      refine ⟨fun _ _ st => let ⟨o, ho, _⟩ := st.2.1; ⟨o, ho⟩, fun _ _ _ st hk => ⟨st.1, st.2.1.at fun o e => hk it (by simp) o e, st.2.2.at fun o e => hk a (by simp) o e⟩, fun j s' Q E' hj st hQ => ?_, fun s' Q E' st hE => ?_⟩
      · have := st.1; omega
      · exact wpAny_nextOf_tuple_end hd0 st.2.1 st.2.2 (by simp; omega) hE
    exact wpAny_pyNext_enum_endD D hen ⟨rfl, hit, p⟩ fun h' eb => ⟨rfl, I.turned (t' := s.toks) (fun b o hb q => eb b o hb q) f0 f1 f3 f4 f5⟩
  self := fun A i s Q E st h => by
    obtain ⟨⟨_, hen⟩, _⟩ := st
    exact wpAny_pyIter_enum hen h
/-- enumerate(e), e a list or a tuple -/
def iEnumA (K : PySem.W.Frag) (ta : TA) : TI := fun σ H R => ta σ H fun vs H1 => ∃ a xs, vs = [.ref a] ∧ SqT K H1 a xs ∧ R (IteT K a) H1
theorem pi_enumT {X : Cx} {e : Expr} {ta : TA} {p pos tpos : Pos} {elts : List Expr} {kk : Nat} (hg : Gl X "enumerate") (hm : X.mg "enumerate" = none) (ha : PA X [e] ta) (hs : starEach [e] X.env = [(false, eval e X.env)] := by rfl) :
    PI X (.Tuple elts kk tpos) (.Call (.Name "enumerate" p) [e] [] pos) (iEnumA X.K ta) := by
  refine ⟨fun pins s σ H R I h => Call_ (ld_blt I hg hm boot_enumerate (PyProof.Rows.callWith_type1 (thn (ha.run pos pins s σ H _ I h) fun us s1 hs1 => ?_) hs rfl))⟩
  obtain ⟨vs, H1, I1, r1, a, xs, rfl, hq, q⟩ := hs1
  obtain ⟨u, rfl, ru⟩ := vals1 r1
  cases ru
  obtain ⟨its, rv, p', hz⟩ := I1.tuple hq
  have pT : s1.heap.IsTuple a its.toArray := p'
  refine call_enum1 (begins_tuple a its.toArray) pT fun h' he hit hk => wpAny_pyIter_enum he ?_
  have I2 : Inv X pins σ H1 { s1 with heap := h' } := I1.kept (t' := s1.toks) hk
  have hlt : a < s1.heap.objs.size := p'.lt
  refine ⟨s1.heap.objs.size + 1, [s1.heap.objs.size + 1, s1.heap.objs.size], _, _, H1, rfl, I2, turn_enumT a (s1.heap.objs.size + 1) s1.heap.objs.size, ⟨⟨.none, he⟩, ⟨_, hit, rfl, rfl⟩, Nat.succ_ne_self _, Nat.ne_of_lt hlt, Nat.ne_of_lt (Nat.lt_succ_of_lt hlt)⟩, fun b hb => ?_, q⟩
  have hle : s1.heap.objs.size ≤ b := by
    rcases (show b = s1.heap.objs.size + 1 ∨ b = s1.heap.objs.size by simpa using hb) with z | z
    · rw [z]; exact Nat.le_succ _
    · rw [z]; exact Nat.le_refl _
  exact I1.fpOk hle (I1.hok.fresh hle)
def numL : Nat → List D → List D
  | _, [] => []
  | n, d :: ds => .tup [.int n, d] :: numL (n + 1) ds
theorem numL_get : ∀ (ds : List D) (n i : Nat) (d : D), (numL n ds)[i]? = some d → ∃ e, ds[i]? = some e ∧ d = .tup [.int ((n + i : Nat) : Int), e]
  | [], _, _, _, h => by simp [numL] at h
  | e :: ds, n, 0, d, h => by simp [numL] at h; exact ⟨e, rfl, h.symm⟩
  | e :: ds, n, i + 1, d, h => by
    obtain ⟨e', h1, h2⟩ := numL_get ds (n + 1) i d (by simpa [numL] using h)
    exact ⟨e', by simpa using h1, by rw [h2, show n + 1 + i = n + (i + 1) by omega]⟩
theorem numL_len : ∀ (ds : List D) (n : Nat), (numL n ds).length = ds.length
  | [], _ => rfl
  | e :: ds, n => by show (numL (n + 1) ds).length + 1 = _; rw [numL_len ds, List.length_cons]
def enumI (d : D) (S : Sto) : Option (List D × (Sto → Bool) × Sto) := (seqI d S).bind fun p => some (numL 0 p.1, p.2.1, p.2.2)
def mEnum (as : As) : Im := fun ρ S => (as ρ S).bind fun p => match p.1 with | [d] => enumI d p.2 | _ => none
theorem pair_new {K : PySem.W.Frag} {H : Hp} {m : List Addr} {S : Sto} {T : Addr} {d : D} {x : V} {i : Nat} (s : StR K H m S) (hT : H T = none) (r : Rep K H m d x) :
    ∃ m', Ext H m (upd H T (.tup [.int (i : Nat), x])) m' ∧ StR K (upd H T (.tup [.int (i : Nat), x])) m' S ∧ Rep K (upd H T (.tup [.int (i : Nat), x])) m' (.tup [.int ((0 + i : Nat) : Int), d]) (.ref T) := by
  refine ⟨m, Ext.new1 hT, s.new1 hT, .tup (SqT.of upd_same) (.cons ?_ (.cons (r.mono s (Ext.new1 hT)) .nil))⟩
  rw [show (0 + i : Nat) = i by omega]
  exact .int _
section
variable {X : Cx} {e : Expr} {ga : As} {pos : Pos} {k : Nat}
theorem walks_numT {K : PySem.W.Frag} {H0 : Hp} {m0 : List Addr} {S0 : Sto} {a' : Addr} {vs : List V} {ds : List D} (s0 : StR K H0 m0 S0) (hs : SqT K H0 a' vs) (rs : RepL K H0 m0 ds vs) : Walks K (IteT K a') H0 m0 (numL 0 ds) fun _ => true := fun H m S i x s _ => by
  have hs' := x.sqT s0 hs
  have rs' := rs.mono s0 x
  refine ⟨fun d hd => ?_, fun h => ⟨vs, hs', by rw [numL_len, rs.length] at h; exact h⟩⟩
  obtain ⟨e', h1, rfl⟩ := numL_get ds 0 i d hd
  obtain ⟨v, h2, h3⟩ := rs'.get h1
  refine ⟨⟨vs, v, hs', h2⟩, fun u H' y => ?_⟩
  obtain ⟨T, x0, rfl, hT, rfl, hy⟩ := y
  have hz := hy vs hs'
  rw [h2] at hz; cases hz
  exact pair_new s hT h3
theorem walks_numL {K : PySem.W.Frag} {H0 : Hp} {m0 : List Addr} {a' : Addr} {ds : List D} {chk : Sto → Bool} (hL : ∀ (H : Hp) (m : List Addr) (S : Sto), Ext H0 m0 H m → StR K H m S → chk S = true → ∃ vs, SqL K H a' vs ∧ RepL K H m ds vs) : Walks K (Ite K a') H0 m0 (numL 0 ds) chk := fun H m S i x s hc => by
  obtain ⟨vs, hs', rs'⟩ := hL H m S x s hc
  refine ⟨fun d hd => ?_, fun h => ⟨vs, hs', by rw [numL_len, rs'.length] at h; exact h⟩⟩
  obtain ⟨e', h1, rfl⟩ := numL_get ds 0 i d hd
  obtain ⟨v, h2, h3⟩ := rs'.get h1
  refine ⟨⟨vs, v, hs', h2⟩, fun u H' y => ?_⟩
  obtain ⟨T, x0, rfl, hT, rfl, hy⟩ := y
  have hz := hy vs hs'
  rw [h2] at hz; cases hz
  exact pair_new s hT h3
theorem di_enum {p tpos : Pos} {elts : List Expr} {kk : Nat} (hg : Gl X "enumerate") (hm : X.mg "enumerate" = none) (ha : DA X [e] ga) (hs : starEach [e] X.env = [(false, eval e X.env)] := by rfl) : DI X (.Tuple elts kk tpos) (.Call (.Name "enumerate" p) [e] [] pos) (mEnum ga) := piw (PI.or (pi_enumT hg hm ha.pa hs) (pi_enum hg hm ha.pa hs)) fun σ H R h => by
  obtain ⟨ρ, S, m, ds, chk, S', er, sr, hf, q⟩ := h
  obtain ⟨p, h1, hf⟩ := obind hf
  have hlen := ha.len _ _ _ _ h1
  obtain ⟨d1, hp⟩ : ∃ d1, p.1 = [d1] := by
    match hz : p.1, hlen with
    | [d1], _ => exact ⟨d1, rfl⟩
  rw [hp] at hf
  obtain ⟨pf, h2, hf⟩ := obind hf
  cases hf
  cases d1 with
  | tup es =>
    cases h2
    refine .inl ⟨ρ, S, m, p.1, p.2, er, sr, h1, fun us H1 m1 x1 s1 r1 => ?_⟩
    rw [hp] at r1
    cases r1 with
    | cons r1 r2 =>
      cases r2
      cases r1 with
      | tup hs rs => exact ⟨_, _, rfl, hs, q _ H1 m1 x1 s1 (walks_numT s1 hs rs)⟩
  | rol es =>
    cases h2
    refine .inr ⟨ρ, S, m, p.1, p.2, er, sr, h1, fun us H1 m1 x1 s1 r1 => ?_⟩
    rw [hp] at r1
    cases r1 with
    | cons r1 r2 =>
      cases r2
      cases r1 with
      | rol hs rs => exact ⟨_, _, rfl, hs.sq, q _ H1 m1 x1 s1 (walks_numL fun H m S x _ _ => ⟨_, (x.roL s1 hs).sq, rs.mono s1 x⟩)⟩
  | loc n =>
    simp only [seqI] at h2
    cases hn : p.2[n]? with
    | none => rw [hn] at h2; cases h2
    | some cl =>
      rw [hn] at h2
      cases cl with
      | dic _ => cases h2
      | lst es =>
        cases h2
        refine .inr ⟨ρ, S, m, p.1, p.2, er, sr, h1, fun us H1 m1 x1 s1 r1 => ?_⟩
        rw [hp] at r1
        cases r1 with
        | cons r1 r2 =>
          cases r2
          obtain ⟨a', vs, rfl, hm', e1, rs⟩ := s1.lst r1 hn
          refine ⟨a', vs, rfl, SqL.of e1, q _ H1 m1 x1 s1 (walks_numL fun H m S x s hc => ?_)⟩
          have hS : S[n]? = some (.lst es) := by
            dsimp only at hc
            cases hn' : S[n]? with
            | none => rw [hn'] at hc; cases hc
            | some cl =>
              rw [hn'] at hc
              cases cl with
              | dic _ => cases hc
              | lst es' => rw [of_decide_eq_true hc]
          obtain ⟨a2, vs2, ea, _, e2, rs2⟩ := s.lst (.loc (x.pre n a' hm')) hS
          cases ea
          exact ⟨vs2, SqL.of e2, rs2⟩
  | _ => cases h2

/-! ### dicts made -/
/-- {'a': x, 'b': y}: two texts that differ -/
def mDict2 (k1 k2 : Str) (f1 f2 : Ex) : Ex := fun ρ S => (f1 ρ S).bind fun p => (f2 ρ p.2).bind fun q => some (.loc q.2.length, q.2 ++ [.dic [(.inr k1, p.1), (.inr k2, q.1)]])
theorem de_dict2 {a b : Expr} {fa fb : Ex} {k1 k2 : Str} {j1 j2 : Nat} {p1 p2 : Pos} (hne : k1 ≠ k2) (ha : DE X a fa) (hb : DE X b fb) : DE X (.Dict [some (.Constant (.str k1) j1 p1), some (.Constant (.str k2) j2 p2)] [a, b] pos) (mDict2 k1 k2 fa fb) :=
  pew (pe_disp (pps_cons pe_str ha (pps_cons pe_str hb pps_nil)) rfl rfl (by intro z; cases z) (show 2 ≤ 15 by decide)) fun σ H Q h => by
    obtain ⟨ρ, S, m, d, S', E, st, hf, q⟩ := h
    obtain ⟨p, h1, hf⟩ := obind hf
    obtain ⟨r, h2, hf⟩ := obind hf
    cases hf
    intro Dd hD
    refine ⟨ρ, S, m, p.1, p.2, E.mono st (Ext.new1 hD), st.new1 hD, h1, fun v H1 m1 x1 s1 r1 => ⟨ρ, p.2, m1, r.1, r.2, (E.mono st (Ext.new1 hD)).mono (st.new1 hD) x1, s1, h2, fun u H2 m2 x2 s2 r2 => ?_⟩⟩
    have hn0 : Dd ∉ m := st.out hD
    have out : ∀ {Ha Hb : Hp} {ma mb : List Addr}, Ha Dd = some (.dK []) → Dd ∉ ma → Ext Ha ma Hb mb → Hb Dd = some (.dK []) ∧ Dd ∉ mb := fun {Ha Hb ma mb} h1 h2 z => ⟨z.keep Dd _ h1 h2, fun hm => by
      rw [z.new Dd hm h2] at h1; cases h1⟩
    obtain ⟨d1, n1⟩ := out (upd_same (H := H)) hn0 x1
    obtain ⟨d2, n2⟩ := out d1 n1 x2
    refine ⟨d2, [(.inr k1, v), (.inr k2, u)], rfl, (show 2 ≤ 15 by decide), ?_⟩
    have em : mergeK [] [((Sum.inr k1 : Key), v), (Sum.inr k2, u)] = [((Sum.inr k1 : Key), v), (Sum.inr k2, u)] := by
      show putK (putK [] (Sum.inr k1 : Key) v) (Sum.inr k2) u = _
      have e1 : putK [] (Sum.inr k1 : Key) v = [(.inr k1, v)] := rfl
      rw [e1]
      unfold putK
      rw [if_neg (by simp [hne])]
      rfl
    rw [em]
    have x3 : Ext H m (upd H2 Dd (.dK [(.inr k1, v), (.inr k2, u)])) (m2 ++ [Dd]) := by
      have xx := ((Ext.new1 (m := m) (o := HO.dK []) hD).trans x1).trans x2
      refine ⟨fun n a e => ?_, fun a o e hna => ?_, fun a ha hna => ?_⟩
      · have z := xx.pre n a e
        rw [List.getElem?_append_left (List.getElem?_eq_some_iff.mp z).1]; exact z
      · rw [upd_ne (ne_of_none e hD)]; exact xx.keep a o e hna
      · rcases List.mem_append.mp ha with z | z
        · exact xx.new a z hna
        · rw [List.mem_singleton.mp z]; exact hD
    have rv := r1.mono s1 x2
    have cell : CellOk X.K (upd H2 Dd (.dK [(.inr k1, v), (.inr k2, u)])) m2 Dd (.dic [(.inr k1, p.1), (.inr k2, r.1)]) :=
      ⟨_, upd_same, .cons ⟨rfl, rv.off d2 (flex_dK _)⟩ (.cons ⟨rfl, r2.off d2 (flex_dK _)⟩ .nil)⟩
    refine q _ _ _ x3 ((s2.off d2 (flex_dK _) n2).adopt n2 cell) (.loc ?_)
    rw [← s2.len, List.getElem?_concat_length]

/-! ### list(range(..)) -/
abbrev Rm := Env → Sto → Option (Int × Int × Sto)
def tRm (K : PySem.W.Frag) (f : Rm) : L2.St → Hp → (Int → Int → Hp → Prop) → Prop := fun σ H Q => ∃ ρ S m a b S', EnvR K H m ρ σ ∧ StR K H m S ∧ f ρ S = some (a, b, S') ∧ ∀ H' m', Ext H m H' m' → StR K H' m' S' → Q a b H'
def mRg1 (f : Ex) : Rm := fun ρ S => (f ρ S).bind fun p => match p.1 with | .int j => some (0, j, p.2) | _ => none
def mRg2 (f g : Ex) : Rm := fun ρ S => (f ρ S).bind fun p => (g ρ p.2).bind fun q => match p.1, q.1 with | .int i, .int j => some (i, j, q.2) | _, _ => none
def mListRg (f : Rm) : Ex := fun ρ S => (f ρ S).bind fun p => if rngOk p.1 = true ∧ rngOk p.2.1 = true ∧ (p.2.1 - p.1).toNat ≤ 2 ^ 24 then some (.loc p.2.2.length, p.2.2 ++ [.lst (rngL p.1 (p.2.1 - p.1).toNat)]) else none
theorem repL_rg {K : PySem.W.Frag} {H : Hp} {m : List Addr} : ∀ (n : Nat) (lo : Int) (k : Nat), RepL K H m (rngL (lo + (k : Nat)) n) ((List.range' k n).map fun i => V.int (lo + (i : Nat)))
  | 0, _, _ => .nil
  | n + 1, lo, k => by
    show RepL K H m (D.int (lo + (k : Nat)) :: rngL (lo + (k : Nat) + 1) n) _
    rw [List.range'_succ, List.map_cons]
    refine .cons (.int _) ?_
    have := repL_rg (K := K) (H := H) (m := m) n lo (k + 1)
    rw [show lo + ((k + 1 : Nat) : Int) = lo + (k : Nat) + 1 by omega] at this
    exact this
theorem repL_rgV {K : PySem.W.Frag} {H : Hp} {m : List Addr} (a b : Int) : RepL K H m (rngL a (b - a).toNat) (rgV a b) := by
  have := repL_rg (K := K) (H := H) (m := m) (b - a).toNat a 0
  unfold rgV
  rw [List.range_eq_range']
  simpa using this
theorem de_listRg {e2 : Expr} {fr : Rm} {te : L2.St → Hp → (Int → Int → Hp → Prop) → Prop} {p : Pos} (hc : X.calm = true) (hg : Gl X "list") (hm : X.mg "list" = none) (he : PRg X e2 te) (w : ∀ σ H Q, tRm X.K fr σ H Q → te σ H Q) (na : starEach [e2] X.env = (false, eval e2 X.env) :: starEach [] X.env := by rfl) :
    DE X (.Call (.Name "list" p) [e2] [] pos) (mListRg fr) := pew (pe_listRg hc hg hm he na) fun σ H Q h => by
  obtain ⟨ρ, S, m, d, S', E, st, hf, q⟩ := h
  obtain ⟨p, h1, hf⟩ := obind hf
  by_cases hc : rngOk p.1 = true ∧ rngOk p.2.1 = true ∧ (p.2.1 - p.1).toNat ≤ 2 ^ 24
  · rw [if_pos hc] at hf; cases hf
    refine w σ H _ ⟨ρ, S, m, p.1, p.2.1, p.2.2, E, st, h1, fun H1 m1 x1 s1 => ⟨⟨(rngOk_of hc.1).1, (rngOk_of hc.1).2, (rngOk_of hc.2.1).1, (rngOk_of hc.2.1).2, hc.2.2⟩, fun l hl => ?_⟩⟩
    obtain ⟨q1, q2, q3⟩ := newL s1 (repL_rgV p.1 p.2.1) hl
    exact q _ _ _ (x1.trans q1) q2 q3
  · rw [if_neg hc] at hf; cases hf
theorem use_rg1 {fa : Ex} {σ : L2.St} {H : Hp} {Q : Int → Int → Hp → Prop} {K : PySem.W.Frag} (h : tRm K (mRg1 fa) σ H Q) : tRg1 (tE K fa) σ H Q := by
  obtain ⟨ρ, S, m, a, b, S', E, st, hf, q⟩ := h
  obtain ⟨p, h1, hf⟩ := obind hf
  refine ⟨ρ, S, m, p.1, p.2, E, st, h1, fun v H1 m1 x1 s1 r1 => ?_⟩
  generalize p.1 = d at hf r1
  match d, hf, r1 with
  | .int j, hf, .int _ => cases hf; exact ⟨_, rfl, q H1 m1 x1 s1⟩
theorem use_rg2 {fa fb : Ex} {σ : L2.St} {H : Hp} {Q : Int → Int → Hp → Prop} {K : PySem.W.Frag} (h : tRm K (mRg2 fa fb) σ H Q) : tRg2 (tE K fa) (tE K fb) σ H Q := by
  obtain ⟨ρ, S, m, a, b, S', E, st, hf, q⟩ := h
  obtain ⟨p, h1, hf⟩ := obind hf
  obtain ⟨r, h2, hf⟩ := obind hf
  refine ⟨ρ, S, m, p.1, p.2, E, st, h1, fun v H1 m1 x1 s1 r1 => ⟨ρ, p.2, m1, r.1, r.2, E.mono st x1, s1, h2, fun u H2 m2 x2 s2 r2 => ?_⟩⟩
  generalize p.1 = d at hf r1
  generalize r.1 = d' at hf r2
  match d, d', hf, r1, r2 with
  | .int i, .int j, hf, .int _, .int _ => cases hf; exact ⟨_, _, rfl, rfl, q H2 m2 (x1.trans x2) s2⟩
theorem de_listRg1 {a : Expr} {fa : Ex} {p p2 pos2 : Pos} (hc : X.calm = true) (hg : Gl X "list") (hm : X.mg "list" = none) (hg2 : Gl X "range") (hm2 : X.mg "range" = none) (ha : DE X a fa) (na : starEach [a] X.env = (false, eval a X.env) :: starEach [] X.env := by rfl) :
    DE X (.Call (.Name "list" p) [.Call (.Name "range" p2) [a] [] pos2] [] pos) (mListRg (mRg1 fa)) := de_listRg hc hg hm (prg_1 hg2 hm2 ha na) fun _ _ _ h => use_rg1 h
theorem de_listRg2 {a b : Expr} {fa fb : Ex} {p p2 pos2 : Pos} (hc : X.calm = true) (hg : Gl X "list") (hm : X.mg "list" = none) (hg2 : Gl X "range") (hm2 : X.mg "range" = none) (ha : DE X a fa) (hb : DE X b fb) (na : starEach [a, b] X.env = (false, eval a X.env) :: starEach [b] X.env := by rfl) (nb : starEach [b] X.env = (false, eval b X.env) :: starEach [] X.env := by rfl)
    (hp : (backTo pos2 (starEach [b] X.env)).any (·.1) = false := by rfl) : DE X (.Call (.Name "list" p) [.Call (.Name "range" p2) [a, b] [] pos2] [] pos) (mListRg (mRg2 fa fb)) := de_listRg hc hg hm (prg_2 hg2 hm2 ha hb na nb hp) fun _ _ _ h => use_rg2 h
end
end DD

/-! sorted(..) of pairs of an int and a text. -/
namespace DD
open PySem PySem.Spec PyProof.Rows L2 SrtO

def strLt (x y : Str) : Bool := decide (x.cps.toList < y.cps.toList)
theorem strLt_asym {x y : Str} (h : strLt x y = true) : strLt y x = false := by
  unfold strLt at *
  rw [decide_eq_true_eq] at h
  exact decide_eq_false (List.lt_asymm h)
theorem strLt_tr {x y z : Str} (h1 : strLt y x = false) (h2 : strLt z y = false) : strLt z x = false := by
  unfold strLt at *
  rw [decide_eq_false_iff_not] at *
  rw [List.not_lt] at *
  exact List.le_trans h1 h2
theorem strLt_irr (x : Str) : strLt x x = false := decide_eq_false (List.lt_irrefl _)
abbrev KS := Int × Str
def ltS (p q : KS) : Bool := if p.1 = q.1 then strLt p.2 q.2 else decide (p.1 < q.1)
theorem ltS_eq {p q : KS} (h : p.1 = q.1) : ltS p q = strLt p.2 q.2 := if_pos h
theorem ltS_ne {p q : KS} (h : p.1 ≠ q.1) : ltS p q = decide (p.1 < q.1) := if_neg h
theorem swoS : Swo ltS := by
  refine ⟨fun x y h => ?_, fun x y z h1 h2 => ?_⟩
  · by_cases e : x.1 = y.1
    · rw [ltS_eq e] at h; rw [ltS_eq e.symm]; exact strLt_asym h
    · rw [ltS_ne e, decide_eq_true_eq] at h; rw [ltS_ne (Ne.symm e)]; exact decide_eq_false (by omega)
  · by_cases e1 : y.1 = x.1
    · by_cases e2 : z.1 = y.1
      · rw [ltS_eq e1] at h1; rw [ltS_eq e2] at h2; rw [ltS_eq (e2.trans e1)]; exact strLt_tr h1 h2
      · rw [ltS_ne e2, decide_eq_false_iff_not] at h2
        rw [ltS_ne (by omega)]; exact decide_eq_false (by omega)
    · rw [ltS_ne e1, decide_eq_false_iff_not] at h1
      by_cases e2 : z.1 = y.1
      · rw [ltS_ne (by omega)]; exact decide_eq_false (by omega)
      · rw [ltS_ne e2, decide_eq_false_iff_not] at h2
        rw [ltS_ne (by omega)]; exact decide_eq_false (by omega)

/-! ### a stable sorting of one's own -/
section
variable {α : Type} {lt : α → α → Bool}
def ins (lt : α → α → Bool) (x : α) : List α → List α
  | [] => [x]
  | y :: l => if lt y x = true then y :: ins lt x l else x :: y :: l
def isort (lt : α → α → Bool) : List α → List α
  | [] => []
  | x :: l => ins lt x (isort lt l)
theorem ins_mem {x y : α} : ∀ {l : List α}, y ∈ ins lt x l ↔ y = x ∨ y ∈ l
  | [] => by simp [ins]
  | z :: l => by
    unfold ins
    split
    · simp only [List.mem_cons, ins_mem (l := l)]
      constructor
      · rintro (h | h | h)
        · exact .inr (.inl h)
        · exact .inl h
        · exact .inr (.inr h)
      · rintro (h | h | h)
        · exact .inr (.inl h)
        · exact .inl h
        · exact .inr (.inr h)
    · simp only [List.mem_cons]
theorem ins_srtd (O : Swo lt) {x : α} : ∀ {l : List α}, Srtd lt l → Srtd lt (ins lt x l)
  | [], _ => List.pairwise_singleton _ _
  | z :: l, h => by
    obtain ⟨h1, h2⟩ := List.pairwise_cons.mp h
    unfold ins
    split
    · rename_i hz
      refine List.pairwise_cons.mpr ⟨fun w hw => ?_, ins_srtd O h2⟩
      rcases ins_mem.mp hw with rfl | hw
      · exact O.asym _ _ hz
      · exact h1 w hw
    · rename_i hz
      have hz' : lt z x = false := by simpa using hz
      refine List.pairwise_cons.mpr ⟨fun w hw => ?_, h⟩
      rcases List.mem_cons.mp hw with rfl | hw
      · exact hz'
      · exact O.tr x z w hz' (h1 w hw)
theorem ins_stb (O : Swo lt) {x : α} : ∀ {l : List α}, Stb lt (ins lt x l) (x :: l)
  | [] => Stb.refl _
  | z :: l => by
    unfold ins
    split
    · rename_i hz
      have a : Stb lt (z :: ins lt x l) (z :: x :: l) := (Stb.refl [z]).app (ins_stb O)
      have b : Stb lt ([z] ++ [x]) ([x] ++ [z]) := Stb.swap O fun p hp q hq => by
        rw [List.mem_singleton.mp hp, List.mem_singleton.mp hq]; exact hz
      exact a.trans (b.app (Stb.refl l))
    · exact Stb.refl _
theorem isort_srtd (O : Swo lt) : ∀ l : List α, Srtd lt (isort lt l)
  | [] => List.Pairwise.nil
  | x :: l => ins_srtd O (isort_srtd O l)
theorem isort_stb (O : Swo lt) : ∀ l : List α, Stb lt (isort lt l) l
  | [] => Stb.refl _
  | x :: l => (ins_stb O).trans ((Stb.refl [x]).app (isort_stb O l))
/-- what is sorted and stable is this one -/
theorem isort_uniq (O : Swo lt) {l m : List α} (h1 : Srtd lt m) (h2 : Stb lt m l) : m = isort lt l :=
  stb_uniq O h1 (isort_srtd O l) (h2.trans ⟨(isort_stb O l).perm.symm, fun x => ((isort_stb O l).cls x).symm⟩)
theorem ins_map {β : Type} (f : β → α) (x : β) : ∀ l : List β, (ins (fun a b => lt (f a) (f b)) x l).map f = ins lt (f x) (l.map f)
  | [] => rfl
  | y :: l => by
    unfold ins
    rw [List.map_cons]
    by_cases h : lt (f y) (f x) = true
    · simp only [h, if_true, List.map_cons]
      rw [ins_map f x l]
    · simp only [h, if_false, List.map_cons, Bool.false_eq_true]
end

/-! ### the rule -/
section
variable {prog : Program} {w : World} {A : Around} {E : Value → Shared → Prop} {s : Shared}
def IsKS (h : Heap) (v : Value) (k : KS) : Prop := ∃ a o t u n, v = .ref a ∧ h.get? a = some o ∧ o.cls = .type "tuple" ∧ o.data = .seq #[.int k.1 t, .str k.2 u] n
theorem IsKS.keeps {h h' : Heap} {v : Value} {k : KS} (p : IsKS h v k) (q : ∀ b o, h.get? b = some o → o.cls = .type "tuple" → h'.get? b = some o) : IsKS h' v k := by
  obtain ⟨a, o, t, u, n, e, ho, hc, hd⟩ := p
  exact ⟨a, o, t, u, n, e, q _ _ ho hc, hc, hd⟩
theorem ks_firsts {h : Heap} {k : Value → KS} : ∀ {vs : List Value}, (∀ v ∈ vs, IsKS h v (k v)) → ∃ fs : List Value, PySem.W.KatTups h vs fs ∧ fs.length = vs.length ∧ ∀ f ∈ fs, ∃ x t, f = Value.int x t
  | [], _ => ⟨[], .nil, rfl, fun _ hm => by simp at hm⟩
  | v :: vs, hp => by
    obtain ⟨fs, h1, h2, h3⟩ := ks_firsts (vs := vs) fun v' hm => hp v' (List.mem_cons_of_mem _ hm)
    obtain ⟨a, o, t, u, n, e, ho, hc, hd⟩ := hp v List.mem_cons_self
    subst e
    refine ⟨.int (k (.ref a)).1 t :: fs, .cons ho hc hd rfl h1, by rw [List.length_cons, List.length_cons, h2], fun f hm => ?_⟩
    rcases List.mem_cons.mp hm with rfl | hm
    · exact ⟨_, t, rfl⟩
    · exact h3 f hm
theorem ks_cmp {vs : List Value} {k : Value → KS} (hp : ∀ v ∈ vs, IsKS s.heap v (k v)) : Cmp prog w A s (tuples' true) (fun p => p.1 ∈ vs) (lt2 fun v u => ltS (k v) (k u)) := by
  intro p q hm hm'
  have h1 := hp _ hm
  have h2 := hp _ hm'
  show wpAny (model prog w) A (keyLt' (tuples' true) p.1 q.1) (fun r s' => s' = s ∧ r = ltS (k p.1) (k q.1)) (fun _ _ => False) s
  generalize k p.1 = x at h1 ⊢
  generalize k q.1 = y at h2 ⊢
  obtain ⟨a, o, t, u, n, e, ho, hc, hd⟩ := h1
  obtain ⟨a', o', t', u', n', e', ho', hc', hd'⟩ := h2
  rw [e, e']
  refine PySem.W.kat_lt ho hd ho' hd' ?_
  show PySem.W.KatLex prog w A true (decide (2 < 2)) _ [(.int x.1 t, .int y.1 t'), (.str x.2 u, .str y.2 u')] 0 s
  refine PySem.W.kat_cons (SeqAt.EqAt.int_int x.1 t y.1 t' prog w _ _ (PySem.W.kat_go (fun e1 => ?_) (fun e1 => ?_)))
  · have ex : x.1 = y.1 := by simpa using e1
    refine PySem.W.kat_yes (PySem.W.kat_cons (SeqAt.EqAt.str_str x.2 u y.2 u' prog w _ _ (PySem.W.kat_go (fun e2 => ?_) (fun e2 => ?_))))
    · have ey : x.2 = y.2 := by simpa using e2
      exact PySem.W.kat_yes (PySem.W.kat_nil ⟨rfl, by rw [ltS_eq ex, ey, strLt_irr]; rfl⟩)
    · refine PySem.W.kat_no (PySem.W.kat_one _ _ (PyProof.Rows.lt_str ?_))
      exact (show s = s ∧ decide (x.2.cps.toList < y.2.cps.toList) = ltS x y from ⟨rfl, (ltS_eq ex).symm⟩)
  · have ex : ¬ x.1 = y.1 := by simpa using e1
    exact PySem.W.kat_no (oneLt_int ⟨rfl, (ltS_ne ex).symm⟩)
theorem swo_on {α β : Type} {lt : β → β → Bool} (O : Swo lt) (f : α → β) : Swo fun a b => lt (f a) (f b) := ⟨fun x y => O.asym _ _, fun x y z => O.tr _ _ _⟩
theorem sorted_ks {l : Addr} {vs : List Value} {k : Value → KS} {Q : Value → Shared → Prop} (hl : s.heap.IsList l vs.toArray) (hz : vs.length ≤ sizeLine) (hp : ∀ v ∈ vs, IsKS s.heap v (k v))
    (h : ∀ (h' : Heap) (d : Addr), (∀ b o, s.heap.get? b = some o → h'.get? b = some o) → s.heap.objs.size ≤ d → (∃ n, h'.get? d = some (seqObj "list" (isort (fun v u => ltS (k v) (k u)) vs).toArray n)) → Q (.ref d) { s with heap := h' }) :
    wpAny (model prog w) A (call (.builtin "sorted") [.ref l]) Q E s := by
  have O := swo_on swoS k
  refine sorted_ord O hl hz (fun h2 h₁ a ha kk => ?_) fun out hs hb => ?_
  · intro h' keep
    have ht : ∀ o, h₁.get? a = some o → o.cls ≠ .type "tuple" := fun o e c => by
      have e' : some o = some (seqObj "list" vs.toArray 0) := e.symm.trans ha
      cases e'
      exact absurd (Value.type.inj c) (by decide)
    have hp' : ∀ v ∈ vs, IsKS h' v (k v) := fun v hm => (hp v hm).keeps fun b o e c => by
      obtain ⟨_, e2⟩ := kk b o e
      exact keep b o (fun z => by subst z; exact ht o e2 c) e2
    obtain ⟨fs, f1, f2, f3⟩ := ks_firsts hp'
    refine ⟨tuples' true, fun Q E hq => ?_, ks_cmp hp'⟩
    refine PySem.W.kat_kind (T := .type "int") f1 (by omega) (fun f hm => ?_) (by rfl) ?_
    · obtain ⟨x, t, rfl⟩ := f3 f hm
      exact PySem.W.Looks.now
    · rw [show (Value.type "int" != Value.type "tuple") = true by decide +kernel]
      exact hq
  · rw [isort_uniq O hs hb]
    exact h _ _ (fun b o e => sortedAll_old e) (Nat.le_succ _) (sortedAll_at s.heap vs _)
end

section
variable {α β : Type}
theorem isort_map {lt : α → α → Bool} (f : β → α) : ∀ l : List β, isort lt (l.map f) = (isort (fun a b => lt (f a) (f b)) l).map f
  | [] => rfl
  | x :: l => by
    show ins lt (f x) (isort lt (l.map f)) = _
    rw [isort_map f l, ← ins_map]
    rfl
theorem isort_mem {lt : α → α → Bool} {x : α} : ∀ {l : List α}, x ∈ isort lt l ↔ x ∈ l
  | [] => Iff.rfl
  | y :: l => by
    show x ∈ ins lt y (isort lt l) ↔ _
    rw [ins_mem, isort_mem (l := l), List.mem_cons]
theorem ins_congr {lt lt' : α → α → Bool} {x : α} : ∀ {l : List α}, (∀ a ∈ l, lt a x = lt' a x) → ins lt x l = ins lt' x l
  | [], _ => rfl
  | y :: l, h => by
    unfold ins
    rw [h y List.mem_cons_self, ins_congr fun a ha => h a (List.mem_cons_of_mem _ ha)]
theorem isort_congr {lt lt' : α → α → Bool} : ∀ {l : List α}, (∀ a ∈ l, ∀ b ∈ l, lt a b = lt' a b) → isort lt l = isort lt' l
  | [], _ => rfl
  | x :: l, h => by
    show ins lt x (isort lt l) = ins lt' x (isort lt' l)
    rw [isort_congr (l := l) fun a ha b hb => h a (List.mem_cons_of_mem _ ha) b (List.mem_cons_of_mem _ hb)]
    exact ins_congr fun a ha => h a (List.mem_cons_of_mem _ (isort_mem.mp ha)) x List.mem_cons_self
end
def keyS : D → Option KS
  | .tup [.int i, .str x] => some (i, x)
  | _ => none
def keyS0 (d : D) : KS := (keyS d).getD (0, Str.empty)
abbrev byS (a b : D) : Bool := ltS (keyS0 a) (keyS0 b)
def sortD : Op1 := fun d S => (lstOf S d).bind fun ds => if ds.all (fun x => (keyS x).isSome) = true then some (.loc S.length, S ++ [.lst (isort byS ds)]) else none
def rSortS (K : PySem.W.Frag) : List V → Hp → VK → Prop := fun vs H Q => ∃ (a : Addr) (Z : List (V × KS)), vs = [V.ref a] ∧ SqL K H a (Z.map (·.1)) ∧ (∀ z ∈ Z, ∃ t, z.1 = .ref t ∧ SqT K H t [.int z.2.1, .str z.2.2]) ∧
  ∀ p, H p = none → Q (.ref p) (upd H p (.lst ((isort (fun x y => ltS x.2 y.2) Z).map (·.1))))
theorem isKS_fun {h : Heap} {v : Value} {k k' : KS} (a : IsKS h v k) (b : IsKS h v k') : k = k' := by
  obtain ⟨x, o, t, u, n, e, ho, hc, hd⟩ := a
  obtain ⟨x', o', t', u', n', e', ho', hc', hd'⟩ := b
  rw [e] at e'
  cases e'
  rw [ho] at ho'
  cases ho'
  rw [hd] at hd'
  injection hd' with h1 _
  have h2 : [Value.int k.1 t, Value.str k.2 u] = [Value.int k'.1 t', Value.str k'.2 u'] := by simpa using congrArg Array.toList h1
  injection h2 with h3 h4
  injection h4 with h5 _
  injection h3 with h6 _
  injection h5 with h7 _
  exact Prod.ext h6 h7
open Classical in
noncomputable def keyV (h : Heap) (v : Value) : KS := if e : ∃ k, IsKS h v k then choose e else (0, Str.empty)
theorem keyV_eq {h : Heap} {v : Value} {k : KS} (a : IsKS h v k) : keyV h v = k := by
  unfold keyV
  have e : ∃ k, IsKS h v k := ⟨k, a⟩
  rw [dif_pos e]
  exact isKS_fun (Classical.choose_spec e) a
section
variable {X : Cx} {e : Expr} {ga : As} {pos : Pos} {k : Nat}
theorem zip_of : ∀ {Z : List (V × KS)} {us : List Value}, Vals (Z.map (·.1)) us → ∃ W : List (V × KS × Value), Z = W.map (fun w => (w.1, w.2.1)) ∧ us = W.map (·.2.2) ∧ ∀ w ∈ W, RelV w.1 w.2.2
  | [], _, .nil => ⟨[], rfl, rfl, fun _ h => by cases h⟩
  | z :: Z, _, .cons (b := u) r t => by
    obtain ⟨W, h1, h2, h3⟩ := zip_of t
    refine ⟨(z.1, z.2, u) :: W, by rw [List.map_cons, ← h1], by rw [List.map_cons, ← h2], fun w hw => ?_⟩
    rcases List.mem_cons.mp hw with rfl | hw
    · exact r
    · exact h3 w hw
theorem vals_map {α : Type} {f : α → V} {g : α → Value} : ∀ {l : List α}, (∀ a ∈ l, RelV (f a) (g a)) → Vals (l.map f) (l.map g)
  | [], _ => .nil
  | a :: l, h => .cons (h a List.mem_cons_self) (vals_map fun b hb => h b (List.mem_cons_of_mem _ hb))
theorem call_sortS : CallR X (.builtin "sorted") (rSortS X.K) := by
  intro pins s σ H vs us Q I r h
  obtain ⟨a, Z, rfl, hs, hZ, q⟩ := h
  obtain ⟨its, rv, hl, hz⟩ := I.list hs
  obtain ⟨u, rfl, ru⟩ := vals1 r
  obtain rfl : u = Value.ref a := ru
  obtain ⟨W, rfl, rfl, hW⟩ := zip_of rv
  have hk : ∀ w ∈ W, IsKS s.heap w.2.2 w.2.1 := fun w hw => by
    obtain ⟨t, et, ht⟩ := hZ (w.1, w.2.1) (List.mem_map.mpr ⟨w, hw, rfl⟩)
    have rw' := hW w hw
    have et' : w.1 = .ref t := et
    rw [et'] at rw'
    obtain ⟨its2, r2, ⟨o, ho, hc, n, hd⟩, _⟩ := I.tuple ht
    obtain ⟨u1, u2, rfl, ri, rj⟩ := vals2 r2
    obtain ⟨t1, rfl⟩ := ri
    obtain ⟨t2, rfl⟩ := rj
    exact ⟨t, o, t1, t2, n, rw', ho, hc, hd⟩
  have zz : (W.map (·.2.2)).length ≤ sizeLine := by simpa using hz
  refine sorted_ks (k := keyV s.heap) hl.isList zz (fun v hv => ?_) fun h' d kp hd hn => ?_
  · obtain ⟨w, hw, rfl⟩ := List.mem_map.mp hv
    rw [keyV_eq (hk w hw)]
    exact hk w hw
  · obtain ⟨n, hn⟩ := hn
    rw [isort_map, isort_congr (lt' := fun a b => ltS a.2.1 b.2.1) (fun x hx y hy => by rw [keyV_eq (hk x hx), keyV_eq (hk y hy)])] at hn
    have e1 : (isort (fun x y : V × KS => ltS x.2 y.2) (W.map fun w => (w.1, w.2.1))).map (·.1) = (isort (fun a b : V × KS × Value => ltS a.2.1 b.2.1) W).map (·.1) := by
      rw [isort_map, List.map_map]; rfl
    have fin := q d (I.hok.fresh hd)
    rw [e1] at fin
    have pm := (isort_stb (swo_on swoS fun w : V × KS × Value => w.2.1) W).perm.length_eq
    refine ⟨.ref d, upd H d (.lst ((isort (fun a b : V × KS × Value => ltS a.2.1 b.2.1) W).map (·.1))), I.laid (t' := s.toks) kp hd ⟨?_, _, n, vals_map fun w hw => hW w (isort_mem.mp hw), hn⟩, rfl, fin⟩
    rw [List.length_map, pm]
    simpa using zz
theorem pairs_of {K : PySem.W.Frag} {H : Hp} {m : List Addr} : ∀ {ds : List D} {vs : List V}, RepL K H m ds vs → ∃ L : List (D × V), ds = L.map (·.1) ∧ vs = L.map (·.2) ∧ ∀ p ∈ L, Rep K H m p.1 p.2
  | _, _, .nil => ⟨[], rfl, rfl, fun _ h => by cases h⟩
  | _, _, .cons (d := d) (v := v) r t => by
    obtain ⟨L, h1, h2, h3⟩ := pairs_of t
    refine ⟨(d, v) :: L, by rw [List.map_cons, ← h1], by rw [List.map_cons, ← h2], fun w hw => ?_⟩
    rcases List.mem_cons.mp hw with rfl | hw
    · exact r
    · exact h3 w hw
theorem repL_map {K : PySem.W.Frag} {H : Hp} {m : List Addr} {α : Type} {f : α → D} {g : α → V} : ∀ {l : List α}, (∀ a ∈ l, Rep K H m (f a) (g a)) → RepL K H m (l.map f) (l.map g)
  | [], _ => .nil
  | a :: l, h => .cons (h a List.mem_cons_self) (repL_map fun b hb => h b (List.mem_cons_of_mem _ hb))
theorem o1_sort {K : PySem.W.Frag} : Op1D K (rSortS K) sortD := by
  intro H m S x d d' S' Q s r h q
  obtain ⟨ds, h1, h⟩ := obind h
  by_cases hc : ds.all (fun x => (keyS x).isSome) = true
  · rw [if_pos hc] at h; cases h
    obtain ⟨a, vs, rfl, hs, rs⟩ := lstOf_rep s r h1
    obtain ⟨L, rfl, rfl, hL⟩ := pairs_of rs
    refine ⟨a, L.map fun p => (p.2, keyS0 p.1), rfl, by rw [List.map_map]; exact hs, fun z hz => ?_, fun p hp => ?_⟩
    · obtain ⟨p, hp, rfl⟩ := List.mem_map.mp hz
      have hk : (keyS p.1).isSome = true := List.all_eq_true.mp hc _ (List.mem_map.mpr ⟨p, hp, rfl⟩)
      have hr := hL p hp
      show ∃ t, p.2 = .ref t ∧ SqT K H t [.int (keyS0 p.1).1, .str (keyS0 p.1).2]
      generalize p.1 = dd at hk hr ⊢
      generalize p.2 = vv at hr ⊢
      unfold keyS0
      unfold keyS at hk ⊢
      split at hk
      · cases hr with
        | tup ht rs =>
          cases rs with
          | cons a1 a2 =>
            cases a2 with
            | cons b1 b2 => cases b2; cases a1; cases b1; exact ⟨_, rfl, ht⟩
      · cases hk
    · have e1 : (isort (fun x y : V × KS => ltS x.2 y.2) (L.map fun p => (p.2, keyS0 p.1))).map (·.1) = (isort (fun a b : D × V => byS a.1 b.1) L).map (·.2) := by
        rw [isort_map, List.map_map]; rfl
      have e2 : isort byS (L.map (·.1)) = (isort (fun a b : D × V => byS a.1 b.1) L).map (·.1) := isort_map _ _
      rw [e1]
      have rr : RepL K H m (isort byS (L.map (·.1))) ((isort (fun a b : D × V => byS a.1 b.1) L).map (·.2)) := by
        rw [e2]
        exact repL_map fun p hp => hL p (isort_mem.mp hp)
      obtain ⟨q1, q2, q3⟩ := newL s rr hp
      exact q _ _ _ q1 q2 q3
  · rw [if_neg hc] at h; cases h
theorem de_sorted {p : Pos} (hg : Gl X "sorted") (hm : X.mg "sorted" = none) (ha : DA X [e] ga) (he : starEach [e] X.env = (false, eval e X.env) :: starEach [] X.env := by rfl) : DE X (.Call (.Name "sorted" p) [e] [] pos) (m1 sortD ga) :=
  de_b1 call_sortS o1_sort hg hm (by decide +kernel) ha (by decide) (by decide) he
end
end DD

/-! What stands at the top: defs as they are called. -/
namespace DD
open PySem PySem.Spec PyProof.Rows L2
theorem RG.blk {k : Nat} {X : Cx} (hr : RG k X) {s : Shared} {H : Hp} {scope : Scope} {ce : PySem.Env} {fp : List Addr} : RG k (X.blk s H scope ce fp) := ⟨hr.room, hr.gd, hr.calm⟩
/-- a def of the top, by its name: its text st, its parameters, what it is worth -/
structure Kn (P : Program) (w : World) (K : PySem.W.Frag) (mg : Str → Option Value) (base : Heap) (k : Nat) (x : Str) (st : Stmt) (ps : List Str) (g : Fn) : Prop where
  ex : ∃ f fd, FnG P w K mg base k f fd ps g ∧ mg x = some (.ref f) ∧ Fun K x x st f fd ∧ Binds K fd ps []
section
variable {X : Cx} {e : Expr} {es : List Expr} {ga gk : As} {pos p : Pos} {k j : Nat} {x : Str} {st : Stmt} {ps ks : List Str} {g : Fn} {kws : List Keyword}
theorem de_k (F : Kn X.prog X.w X.K X.mg X.base k x st ps g) (hr : RG j X) (hkj : k ≤ j) (hg : Gl X x) (ha : DA X (e :: es) ga) (hdb : (x == ("__debug__" : Str)) = false := by decide) (he : starEach (e :: es) X.env = (false, eval e X.env) :: starEach es X.env := by rfl)
    (hpl : (backTo pos (starEach es X.env)).any (·.1) = false := by rfl) : DE X (.Call (.Name x p) (e :: es) [] pos) (mCall g ga) := by
  obtain ⟨f, fd, h1, h2, h3, h4⟩ := F.ex
  exact de_call h1 (hr.mono hkj) hg h2 h3.kp h4 ha hdb he hpl
/-- how a call with keywords binds: read off the text of the def -/
theorem kw_of {K : PySem.W.Frag} {f : Addr} {fd : FuncData} {n : Nat} {perm : List Nat} (F : Fun K x x st f fd) (hp : ∀ i ∈ perm, i < ks.length)
    (h : ∀ (kV doc pm : Value) (an : Option Addr) (cdv ct : Value) (us ws : List Value), us.length = n → ws.length = ks.length → bindArgs (PySem.W.fnOf x x (defArgs st) (defBody st) (defScope st) .none kV doc pm an cdv ct) ⟨us, ks.zip ws⟩ = pure (ps.zip (us ++ perm.map fun i => ws.getD i .none))) :
    KwOk K fd ps ks n perm := by
  obtain ⟨oc, od, kV, doc, pm, an, cdv, ct, osl, rfl, lk, hcd⟩ := F.ex
  exact ⟨fun s us ws _ h1 h2 => BindsTo.of_eq (h kV doc pm an cdv ct us ws h1 h2), hp⟩
theorem de_kk0 {perm : List Nat} (F : Kn X.prog X.w X.K X.mg X.base k x st ps g) (hr : RG j X) (hkj : k ≤ j) (hg : Gl X x) (ks : List Str) (hp : ∀ i ∈ perm, i < ks.length)
    (h : ∀ (kV doc pm : Value) (an : Option Addr) (cdv ct : Value) (us ws : List Value), us.length = 0 → ws.length = ks.length → bindArgs (PySem.W.fnOf x x (defArgs st) (defBody st) (defScope st) .none kV doc pm an cdv ct) ⟨us, ks.zip ws⟩ = pure (ps.zip (us ++ perm.map fun i => ws.getD i .none)))
    (ha : DK X kws gk) (hl : kws.length = ks.length := by rfl) (hall : (backToKw pos (keywordEach kws X.env)).all (·.1.isSome) = true := by rfl) (hks : (backToKw pos (keywordEach kws X.env)).filterMap (·.1) = ks := by rfl)
    (hdb : (x == ("__debug__" : Str)) = false := by decide) (hpl : ((backTo pos (starEach [] X.env)).any (·.1) || (backToKw pos (keywordEach kws X.env)).any (·.1.isNone)) = false := by rfl) :
    DE X (.Call (.Name x p) [] kws pos) (mCallK g perm mNil gk) := by
  obtain ⟨f, fd, h1, h2, h3, h4⟩ := F.ex
  exact de_callK0 h1 (hr.mono hkj) hg h2 h3.kp (kw_of h3 hp h) ha hl hall hks hdb hpl
theorem de_kk {perm : List Nat} {n : Nat} (F : Kn X.prog X.w X.K X.mg X.base k x st ps g) (hr : RG j X) (hkj : k ≤ j) (hg : Gl X x) (n : Nat) (ks : List Str) (hp : ∀ i ∈ perm, i < ks.length)
    (h : ∀ (kV doc pm : Value) (an : Option Addr) (cdv ct : Value) (us ws : List Value), us.length = n → ws.length = ks.length → bindArgs (PySem.W.fnOf x x (defArgs st) (defBody st) (defScope st) .none kV doc pm an cdv ct) ⟨us, ks.zip ws⟩ = pure (ps.zip (us ++ perm.map fun i => ws.getD i .none)))
    (ha : DA X (e :: es) ga) (hak : DK X kws gk) (hn : (e :: es).length = n := by rfl) (hl : kws.length = ks.length := by rfl) (hall : (backToKw pos (keywordEach kws X.env)).all (·.1.isSome) = true := by rfl) (hks : (backToKw pos (keywordEach kws X.env)).filterMap (·.1) = ks := by rfl)
    (hdb : (x == ("__debug__" : Str)) = false := by decide) (he : starEach (e :: es) X.env = (false, eval e X.env) :: starEach es X.env := by rfl) (hpl : ((backTo pos (starEach (e :: es) X.env)).any (·.1) || (backToKw pos (keywordEach kws X.env)).any (·.1.isNone)) = false := by rfl) :
    DE X (.Call (.Name x p) (e :: es) kws pos) (mCallK g perm ga gk) := by
  obtain ⟨f, fd, h1, h2, h3, h4⟩ := F.ex
  exact de_callK h1 (hr.mono hkj) hg h2 h3.kp (kw_of h3 hp h) ha hak hn hl hall hks hdb he hpl
end
/-- a def of the top as the head has it -/
structure At (K : PySem.W.Frag) (x : Str) (st : Stmt) (f : Addr) (fd : FuncData) : Prop where
  ns : PySem.W.nsIn K mainGlobals x = some (some (.ref f))
  fn : Fun K x x st f fd
theorem at_mk {K : PySem.W.Frag} {x : Str} {st : Stmt} {f : Addr} {oc : Value} {od an : Option Addr} {osl : Array (Option Value)} {kV doc pm cdv ct : Value} (a : PySem.W.nsIn K mainGlobals x = some (some (.ref f)))
    (l : K.lookup f = some ⟨oc, od, .func (PySem.W.fnOf x x (defArgs st) (defBody st) (defScope st) .none kV doc pm an cdv ct), osl⟩) (c : PySem.W.codeIn K cdv x = true) (k : PySem.W.keepIn K (.ref f) = true) : ∃ f fd, At K x st f fd := ⟨f, _, a, fun_mk l c k⟩
theorem kn_of {P : Program} {w : World} {K : PySem.W.Frag} {mg : Str → Option Value} {base h : Heap} {k : Nat} {x : Str} {st : Stmt} {ps : List Str} {g : Fn} (X : K.In h) (G : h.Ns mainGlobals mg) (a : ∃ f fd, At K x st f fd)
    (hb : ∀ (kV doc pm : Value) (an : Option Addr) (cdv ct : Value) (us : List Value), us.length = ps.length → bindArgs (PySem.W.fnOf x x (defArgs st) (defBody st) (defScope st) .none kV doc pm an cdv ct) ⟨us, []⟩ = pure (ps.zip us))
    (hf : ∀ f fd, Fun K x x st f fd → FnG P w K mg base k f fd ps g) : Kn P w K mg base k x st ps g := by
  obtain ⟨f, fd, a1, a2⟩ := a
  exact ⟨f, fd, hf f fd a2, PySem.W.mg_of X G a1, a2, a2.binds hb⟩
end DD

/-! What must hold for a worth upon data to come out so: one rule a form. -/
namespace DD
open PySem L2

def wO {α : Type} (o : Option α) (Q : α → Prop) : Prop := ∃ a, o = some a ∧ Q a
section
variable {α β : Type} {o : Option α} {a : α} {Q Q' : α → Prop}
@[simp] theorem wO_some : wO (some a) Q ↔ Q a := ⟨fun ⟨b, e, q⟩ => by cases e; exact q, fun q => ⟨a, rfl, q⟩⟩
@[simp] theorem wO_none : wO (none : Option α) Q ↔ False := ⟨(fun ⟨b, e, q⟩ => by cases e), fun q => q.elim⟩
@[simp] theorem wO_bind {f : α → Option β} {R : β → Prop} : wO (o.bind f) R ↔ wO o fun a => wO (f a) R := by
  cases o with
  | none => simp
  | some a => simp
@[simp] theorem wO_ite {c : Prop} [Decidable c] {x y : Option α} : wO (if c then x else y) Q ↔ (c → wO x Q) ∧ (¬ c → wO y Q) := by
  by_cases h : c
  · simp [h]
  · simp [h]
@[simp] theorem wO_iteN {c : Prop} [Decidable c] {x : Option α} : wO (if c then x else none) Q ↔ c ∧ wO x Q := by
  by_cases h : c
  · simp [h]
  · simp [h]
theorem wO.imp (h : wO o Q) (w : ∀ a, Q a → Q' a) : wO o Q' := let ⟨a, e, q⟩ := h; ⟨a, e, w a q⟩
theorem wO.eq (h : o = some a) (q : Q a) : wO o Q := ⟨a, h, q⟩
end
section
variable {ρ : Env} {S : Sto} {f g : SM} {fa fb fc : Ex} {ga gk : As} {t u : Tx} {Q : Out → Prop} {E : D × Sto → Prop} {A : List D × Sto → Prop} {T : Bool × Sto → Prop}
/-- behind a statement -/
def thenS (g : SM) (Q : Out → Prop) : Out → Prop
  | .nx ρ' S' => wO (g ρ' S') Q
  | o => Q o
@[simp] theorem thenS_nx : thenS g Q (.nx ρ S) ↔ wO (g ρ S) Q := Iff.rfl
@[simp] theorem thenS_rt {d : D} : thenS g Q (.rt d S) ↔ Q (.rt d S) := Iff.rfl
@[simp] theorem thenS_bk : thenS g Q (.bk ρ S) ↔ Q (.bk ρ S) := Iff.rfl
@[simp] theorem thenS_ct : thenS g Q (.ct ρ S) ↔ Q (.ct ρ S) := Iff.rfl
@[simp] theorem w_seq : wO (mSeq f g ρ S) Q ↔ wO (f ρ S) (thenS g Q) := by
  unfold mSeq
  rw [wO_bind]
  refine ⟨fun h => h.imp fun o q => ?_, fun h => h.imp fun o q => ?_⟩
  · cases o <;> first | exact q | (rw [wO_some] at q; exact q)
  · cases o <;> first | exact q | (rw [wO_some]; exact q)
@[simp] theorem w_skip : wO (mSkip ρ S) Q ↔ Q (.nx ρ S) := wO_some
@[simp] theorem w_break : wO (mBreak ρ S) Q ↔ Q (.bk ρ S) := wO_some
@[simp] theorem w_cont : wO (mCont ρ S) Q ↔ Q (.ct ρ S) := wO_some
@[simp] theorem w_ret : wO (mRet fa ρ S) Q ↔ wO (fa ρ S) fun p => Q (.rt p.1 p.2) := by unfold mRet; simp
@[simp] theorem w_retN : wO (mRetN ρ S) Q ↔ Q (.rt .non S) := wO_some
@[simp] theorem w_do : wO (mDo fa ρ S) Q ↔ wO (fa ρ S) fun p => Q (.nx ρ p.2) := by unfold mDo; simp
@[simp] theorem w_ite : wO (mIte t f g ρ S) Q ↔ wO (t ρ S) fun p => (p.1 = true → wO (f ρ p.2) Q) ∧ (p.1 = false → wO (g ρ p.2) Q) := by unfold mIte; simp
@[simp] theorem w_asg {gm : Gm} : wO (mAsg fa gm ρ S) Q ↔ wO (fa ρ S) fun p => wO (gm p.1 ρ) fun ρ' => Q (.nx ρ' p.2) := by unfold mAsg; simp
@[simp] theorem w_gN {i : Nat} {d : D} {R : Env → Prop} : wO (gN i d ρ) R ↔ R (ρ.set i (some d)) := wO_some
@[simp] theorem w_gT {gs : Gs} {ds : List D} {R : Env → Prop} : wO (gT gs (.tup ds) ρ) R ↔ wO (gs ds ρ) R := Iff.rfl
@[simp] theorem w_gsNil {R : Env → Prop} : wO (gsNil [] ρ) R ↔ R ρ := wO_some
@[simp] theorem w_gsCons {gm : Gm} {gs : Gs} {d : D} {ds : List D} {R : Env → Prop} : wO (gsCons gm gs (d :: ds) ρ) R ↔ wO (gm d ρ) fun ρ' => wO (gs ds ρ') R := by unfold gsCons; simp
@[simp] theorem w_par {i j : Nat} : wO (mPar i j ga ρ S) Q ↔ wO (ga ρ S) fun p => wO (match p.1 with | [x, y] => some (Out.nx ((ρ.set i (some x)).set j (some y)) p.2) | _ => none) Q := by unfold mPar; simp only [wO_bind] <;> exact Iff.rfl
@[simp] theorem w_put {fv fd fk : Ex} : wO (mPut fv fd fk ρ S) Q ↔ wO (fv ρ S) fun v => wO (fd ρ v.2) fun d => wO (fk ρ d.2) fun i => wO (match d.1 with
  | .loc n => match i.2[n]? with
    | some (.dic kvs) => (keyOf i.1).bind fun kk => if kvs.length < sizeLine then some (Out.nx ρ (i.2.set n (.dic (putD kvs kk v.1)))) else none
    | _ => none
  | _ => none) Q := by unfold mPut; simp only [wO_bind] <;> exact Iff.rfl
@[simp] theorem w_v {i : Nat} : wO (mV i ρ S) E ↔ ∃ d, ρ[i]? = some (some d) ∧ E (d, S) := by
  unfold mV
  cases h : ρ[i]? with
  | none => simp
  | some o => cases o <;> simp
@[simp] theorem w_c {d : D} : wO (mC d ρ S) E ↔ E (d, S) := wO_some
@[simp] theorem w_nil : wO (mNil ρ S) A ↔ A ([], S) := wO_some
@[simp] theorem w_cons : wO (mCons fa ga ρ S) A ↔ wO (fa ρ S) fun p => wO (ga ρ p.2) fun q => A (p.1 :: q.1, q.2) := by unfold mCons; simp
@[simp] theorem w_call {h : Fn} : wO (mCall h ga ρ S) E ↔ wO (ga ρ S) fun p => wO (h p.1 p.2) E := by unfold mCall; simp
@[simp] theorem w_callK {h : Fn} {perm : List Nat} : wO (mCallK h perm ga gk ρ S) E ↔ wO (ga ρ S) fun p => wO (gk ρ p.2) fun q => wO (h (p.1 ++ perm.map fun i => q.1.getD i .non) q.2) E := by unfold mCallK; simp
@[simp] theorem w_tup : wO (mTup ga ρ S) E ↔ wO (ga ρ S) fun p => E (.tup p.1, p.2) := by unfold mTup; simp
@[simp] theorem w_lst : wO (mLst ga ρ S) E ↔ wO (ga ρ S) fun p => E (.loc p.2.length, p.2 ++ [.lst p.1]) := by unfold mLst; simp
@[simp] theorem w_m2 {h : Op2} : wO (m2 h fa fb ρ S) E ↔ wO (fa ρ S) fun p => wO (fb ρ p.2) fun q => wO (h p.1 q.1 q.2) E := by unfold m2; simp
@[simp] theorem w_b : wO (mB fa ρ S) T ↔ wO (fa ρ S) fun p => ∃ b, p.1 = .bl b ∧ T (b, p.2) := by
  unfold mB
  rw [wO_bind]
  refine ⟨fun h => h.imp fun p q => ?_, fun h => h.imp fun p q => ?_⟩
  · cases hp : p.1 with
    | bl b => rw [hp] at q; rw [wO_some] at q; exact ⟨b, rfl, q⟩
    | _ => rw [hp] at q; rw [wO_none] at q; exact q.elim
  · obtain ⟨b, hb, q⟩ := q
    rw [hb, wO_some]
    exact q
@[simp] theorem w_not : wO (mNot t ρ S) T ↔ wO (t ρ S) fun p => T (!p.1, p.2) := by unfold mNot; simp
@[simp] theorem w_and : wO (mAnd t u ρ S) T ↔ wO (t ρ S) fun p => (p.1 = true → wO (u ρ p.2) T) ∧ (p.1 = false → T (false, p.2)) := by unfold mAnd; simp
@[simp] theorem w_or : wO (mOr t u ρ S) T ↔ wO (t ρ S) fun p => (p.1 = true → T (true, p.2)) ∧ (p.1 = false → wO (u ρ p.2) T) := by unfold mOr; simp
@[simp] theorem w_yes : wO (mYes ρ S) T ↔ T (true, S) := wO_some
@[simp] theorem w_if : wO (mIf t fa fb ρ S) E ↔ wO (t ρ S) fun p => (p.1 = true → wO (fa ρ p.2) E) ∧ (p.1 = false → wO (fb ρ p.2) E) := by unfold mIf; simp
@[simp] theorem w_neg : wO (mNeg fa ρ S) E ↔ wO (fa ρ S) fun p => wO (match p.1 with | .int i => some (D.int (-i), p.2) | _ => none) E := by unfold mNeg; simp only [wO_bind] <;> exact Iff.rfl
@[simp] theorem w_notV : wO (mNotV fa ρ S) E ↔ wO (fa ρ S) fun p => wO (match p.1 with | .bl b => some (D.bl (!b), p.2) | _ => none) E := by unfold mNotV; simp only [wO_bind] <;> exact Iff.rfl
@[simp] theorem w_andV : wO (mAndV fa fb ρ S) E ↔ wO (fa ρ S) fun p => wO (match p.1 with | .bl true => fb ρ p.2 | .bl false => some (D.bl false, p.2) | _ => none) E := by unfold mAndV; simp only [wO_bind] <;> exact Iff.rfl
@[simp] theorem w_orV : wO (mOrV fa fb ρ S) E ↔ wO (fa ρ S) fun p => wO (match p.1 with | .bl false => fb ρ p.2 | .bl true => some (D.bl true, p.2) | _ => none) E := by unfold mOrV; simp only [wO_bind] <;> exact Iff.rfl

abbrev Po0 := Option Int × Sto
@[simp] theorem w_noP {R : Po0 → Prop} : wO (mNoP ρ S) R ↔ R (none, S) := wO_some
@[simp] theorem w_P {R : Po0 → Prop} : wO (mP fa ρ S) R ↔ wO (fa ρ S) fun p => wO (match p.1 with | .int i => some (some i, p.2) | _ => none) R := by unfold mP; simp only [wO_bind] <;> exact Iff.rfl
@[simp] theorem w_sl {lo hi : Po} : wO (mSl fa lo hi ρ S) E ↔ wO (fa ρ S) fun p => wO (lo ρ p.2) fun l => wO (hi ρ l.2) fun u => wO (sliceD p.1 l.1 u.1 u.2) E := by unfold mSl; simp
@[simp] theorem w_meth1 {h : Op2} : wO (mMeth1 h fa ga ρ S) E ↔ wO (fa ρ S) fun p => wO (lstOf p.2 p.1) fun _ => wO (ga ρ p.2) fun q => wO (match q.1 with | [e] => h p.1 e q.2 | _ => none) E := by unfold mMeth1; simp only [wO_bind] <;> exact Iff.rfl
@[simp] theorem w_meth0 {h : D → Sto → Option (D × Sto)} : wO (mMeth0 h fa ρ S) E ↔ wO (fa ρ S) fun p => wO (lstOf p.2 p.1) fun _ => wO (h p.1 p.2) E := by unfold mMeth0; simp
@[simp] theorem w_m1 {h : Op1} : wO (m1 h ga ρ S) E ↔ wO (ga ρ S) fun q => wO (match q.1 with | [e] => h e q.2 | _ => none) E := by unfold m1; simp only [wO_bind] <;> exact Iff.rfl
@[simp] theorem w_dict2 {k1 k2 : Str} : wO (mDict2 k1 k2 fa fb ρ S) E ↔ wO (fa ρ S) fun p => wO (fb ρ p.2) fun q => E (.loc q.2.length, q.2 ++ [.dic [(.inr k1, p.1), (.inr k2, q.1)]]) := by unfold mDict2; simp
@[simp] theorem w_listRg {fr : Rm} : wO (mListRg fr ρ S) E ↔ wO (fr ρ S) fun p => wO (if rngOk p.1 = true ∧ rngOk p.2.1 = true ∧ (p.2.1 - p.1).toNat ≤ 2 ^ 24 then some (D.loc p.2.2.length, p.2.2 ++ [.lst (rngL p.1 (p.2.1 - p.1).toNat)]) else none) E := by unfold mListRg; simp
@[simp] theorem w_rg1 {R : Int × Int × Sto → Prop} : wO (mRg1 fa ρ S) R ↔ wO (fa ρ S) fun p => wO (match p.1 with | .int j => some ((0 : Int), j, p.2) | _ => none) R := by unfold mRg1; simp only [wO_bind] <;> exact Iff.rfl
@[simp] theorem w_rg2 {R : Int × Int × Sto → Prop} : wO (mRg2 fa fb ρ S) R ↔ wO (fa ρ S) fun p => wO (fb ρ p.2) fun q => wO (match p.1, q.1 with | .int i, .int j => some (i, j, q.2) | _, _ => none) R := by unfold mRg2; simp only [wO_bind] <;> exact Iff.rfl
/-- a def -/
def outF (E : D × Sto → Prop) : Out → Prop
  | .rt d S' => E (d, S')
  | .nx _ S' => E (.non, S')
  | _ => False
@[simp] theorem outF_rt {d : D} : outF E (.rt d S) ↔ E (d, S) := Iff.rfl
@[simp] theorem outF_nx : outF E (.nx ρ S) ↔ E (.non, S) := Iff.rfl
@[simp] theorem outF_bk : outF E (.bk ρ S) ↔ False := Iff.rfl
@[simp] theorem outF_ct : outF E (.ct ρ S) ↔ False := Iff.rfl
theorem w_fn {n N : Nat} {body : SM} {ds : List D} (hl : ds.length = n) (h : wO (body (ds.map some ++ List.replicate (N - n) none) S) (outF E)) : wO (mkFn n N body ds S) E := by
  obtain ⟨o, e, q⟩ := h
  unfold mkFn
  rw [if_pos hl, e]
  cases o with
  | rt d S' => exact wO_some.mpr q
  | nx _ S' => exact wO_some.mpr q
  | bk _ _ => exact q.elim
  | ct _ _ => exact q.elim
/-! ### loops -/
abbrev Im0 := List D × (Sto → Bool) × Sto
@[simp] theorem w_for {it : Im} {gm : Gm} {body : SM} : wO (mFor it gm body ρ S) Q ↔ wO (it ρ S) fun p => wO (forL gm p.2.1 body p.1 ρ p.2.2) Q := by unfold mFor; simp
@[simp] theorem w_comp {vs : List Nat} {it : Im} {gm : Gm} {tt : Tx} {el : Ex} : wO (mComp vs it gm tt el ρ S) E ↔ wO (it ρ S) fun p => wO (compL gm p.2.1 tt el (wipeE ρ vs) p.1 [] p.2.2) fun q => E (.loc q.2.length, q.2 ++ [.lst q.1]) := by unfold mComp; simp
@[simp] theorem w_I {R : Im0 → Prop} : wO (mI fa ρ S) R ↔ wO (fa ρ S) fun p => wO (seqI p.1 p.2) R := by unfold mI; simp
@[simp] theorem w_R1 {R : Im0 → Prop} : wO (mR1 ga ρ S) R ↔ wO (ga ρ S) fun p => wO (match p.1 with | [.int j] => if rngOk j = true then some (rngL 0 j.toNat, (fun _ : Sto => true), p.2) else none | _ => none) R := by unfold mR1; simp only [wO_bind] <;> exact Iff.rfl
@[simp] theorem w_R2 {R : Im0 → Prop} : wO (mR2 ga ρ S) R ↔ wO (ga ρ S) fun p => wO (match p.1 with | [.int i, .int j] => if rngOk i = true ∧ rngOk j = true then some (rngL i (j - i).toNat, (fun _ : Sto => true), p.2) else none | _ => none) R := by unfold mR2; simp only [wO_bind] <;> exact Iff.rfl
@[simp] theorem w_enum {R : Im0 → Prop} : wO (mEnum ga ρ S) R ↔ wO (ga ρ S) fun p => wO (match p.1 with | [d] => enumI d p.2 | _ => none) R := by unfold mEnum; simp only [wO_bind] <;> exact Iff.rfl
/-- behind a turn -/
def turnS (P : Env → Sto → Prop) (B : Env → Sto → Prop) (R : D → Sto → Prop) : Out → Prop
  | .nx ρ S => P ρ S
  | .ct ρ S => P ρ S
  | .bk ρ S => B ρ S
  | .rt d S => R d S
@[simp] theorem turnS_nx {P B : Env → Sto → Prop} {R : D → Sto → Prop} : turnS P B R (.nx ρ S) ↔ P ρ S := Iff.rfl
@[simp] theorem turnS_ct {P B : Env → Sto → Prop} {R : D → Sto → Prop} : turnS P B R (.ct ρ S) ↔ P ρ S := Iff.rfl
@[simp] theorem turnS_bk {P B : Env → Sto → Prop} {R : D → Sto → Prop} : turnS P B R (.bk ρ S) ↔ B ρ S := Iff.rfl
@[simp] theorem turnS_rt {P B : Env → Sto → Prop} {R : D → Sto → Prop} {d : D} : turnS P B R (.rt d S) ↔ R d S := Iff.rfl
/-- a loop by what holds ahead of each turn, by the items that are left -/
theorem for_w {gm : Gm} {chk : Sto → Bool} {body : SM} (P : List D → Env → Sto → Prop) (B : Env → Sto → Prop) (R : D → Sto → Prop)
    (hc : ∀ ds ρ S, P ds ρ S → chk S = true) (hs : ∀ d ds ρ S, P (d :: ds) ρ S → wO (gm d ρ) fun ρ1 => wO (body ρ1 S) (turnS (P ds) B R))
    (hn : ∀ ρ S, P [] ρ S → Q (.nx ρ S)) (hb : ∀ ρ S, B ρ S → Q (.nx ρ S)) (hr : ∀ d S, R d S → Q (.rt d S)) : ∀ (ds : List D) (ρ : Env) (S : Sto), P ds ρ S → wO (forL gm chk body ds ρ S) Q
  | [], ρ, S, h => by
    unfold forL
    rw [if_pos (hc _ _ _ h), wO_some]
    exact hn ρ S h
  | d :: ds, ρ, S, h => by
    unfold forL
    rw [if_pos (hc _ _ _ h), wO_bind]
    refine (hs d ds ρ S h).imp fun ρ1 h1 => ?_
    rw [wO_bind]
    refine h1.imp fun o ho => ?_
    cases o with
    | nx ρ2 S2 => exact for_w P B R hc hs hn hb hr ds ρ2 S2 ho
    | ct ρ2 S2 => exact for_w P B R hc hs hn hb hr ds ρ2 S2 ho
    | bk ρ2 S2 => exact wO_some.mpr (hb _ _ ho)
    | rt d2 S2 => exact wO_some.mpr (hr _ _ ho)
/-- a comprehension likewise: what is made so far -/
theorem comp_w {gm : Gm} {chk : Sto → Bool} {tt : Tx} {el : Ex} {ρ : Env} (P : List D → List D → Sto → Prop) (hc : ∀ ds acc S, P ds acc S → chk S = true)
    (hs : ∀ d ds acc S, P (d :: ds) acc S → wO (gm d ρ) fun ρ1 => wO (tt ρ1 S) fun b => (b.1 = true → wO (el ρ1 b.2) fun y => acc.length < sizeLine ∧ P ds (acc ++ [y.1]) y.2) ∧ (b.1 = false → P ds acc b.2))
    (hn : ∀ acc S, P [] acc S → A (acc, S)) : ∀ (ds acc : List D) (S : Sto), P ds acc S → wO (compL gm chk tt el ρ ds acc S) A
  | [], acc, S, h => by
    unfold compL
    rw [if_pos (hc _ _ _ h), wO_some]
    exact hn acc S h
  | d :: ds, acc, S, h => by
    unfold compL
    rw [if_pos (hc _ _ _ h), wO_bind]
    refine (hs d ds acc S h).imp fun ρ1 h1 => ?_
    rw [wO_bind]
    refine h1.imp fun b hb => ?_
    rw [wO_ite]
    refine ⟨fun e => ?_, fun e => comp_w P hc hs hn ds acc b.2 (hb.2 (by simpa using e))⟩
    rw [wO_bind]
    refine (hb.1 e).imp fun y hy => ?_
    rw [if_pos hy.1]
    exact comp_w P hc hs hn ds _ y.2 hy.2
end
/-! ### operations whose operands are known -/
section
variable {S : Sto} {i j : Int} {x y : Str} {b c : Bool} {ds es : List D} {n : Nat}
@[simp] theorem int0_ap {g : Int → Int → D} : int0 g (.int i) (.int j) S = some (g i j, S) := rfl
@[simp] theorem intD_ap {C : Int → Int → Prop} [∀ i j, Decidable (C i j)] {g : Int → Int → D} : intD C g (.int i) (.int j) S = if C i j then some (g i j, S) else none := rfl
@[simp] theorem add_int : addD (.int i) (.int j) S = some (.int (i + j), S) := rfl
@[simp] theorem add_tup : addD (.tup ds) (.tup es) S = if ds.length + es.length ≤ sizeLine then some (.tup (ds ++ es), S) else none := rfl
@[simp] theorem add_str : addD (.str x) (.str y) S = if x.length + y.length ≤ sizeLine then some (.str (x ++ y), S) else none := rfl
@[simp] theorem toInt_int : toIntD (.int i) S = some (.int i, S) := rfl
@[simp] theorem toInt_bl : toIntD (.bl b) S = some (.int (if b then 1 else 0), S) := rfl
@[simp] theorem abs_int : absD (.int i) S = some (.int (if i < 0 then -i else i), S) := rfl
@[simp] theorem eq_int : eqD (.int i) (.int j) S = some (.bl (decide (i = j)), S) := rfl
@[simp] theorem eq_str : eqD (.str x) (.str y) S = some (.bl (decide (x = y)), S) := rfl
@[simp] theorem eq_bl : eqD (.bl b) (.bl c) S = some (.bl (decide (b = c)), S) := rfl
@[simp] theorem ne_int : neD (.int i) (.int j) S = some (.bl (!decide (i = j)), S) := rfl
@[simp] theorem ne_str : neD (.str x) (.str y) S = some (.bl (!decide (x = y)), S) := rfl
@[simp] theorem key_int : keyOf (.int i) = some (.inl i) := rfl
@[simp] theorem key_str : keyOf (.str x) = some (.inr x) := rfl
@[simp] theorem ix_tup : ixD (.tup ds) (.int i) S = (atI ds i).bind fun x => some (x, S) := rfl
@[simp] theorem len_tup : lenD (.tup ds) S = some (.int ds.length, S) := rfl
@[simp] theorem len_rol : lenD (.rol ds) S = some (.int ds.length, S) := rfl
@[simp] theorem sl_tup : ∀ lo hi, sliceD (.tup ds) lo hi S = some (.tup (cutD ds lo hi), S) := fun _ _ => rfl
@[simp] theorem sl_rol : ∀ lo hi, sliceD (.rol ds) lo hi S = some (.loc S.length, S ++ [.lst (cutD ds lo hi)]) := fun _ _ => rfl
@[simp] theorem tup_tup : tupleD (.tup ds) S = some (.tup ds, S) := rfl
theorem ix_loc (h : S[n]? = some (.lst ds)) : ixD (.loc n) (.int i) S = (atI ds i).bind fun x => some (x, S) := by
  simp only [ixD, h]; simp only [ixS, seqOf, h, Option.bind_some]
theorem len_loc (h : S[n]? = some (.lst ds)) : lenD (.loc n) S = some (.int ds.length, S) := by simp only [lenD, h]
theorem lst_loc (h : S[n]? = some (.lst ds)) : lstOf S (.loc n) = some ds := by simp only [lstOf, h]
theorem seq_loc (h : S[n]? = some (.lst ds)) : seqOf S (.loc n) = some ds := by simp only [seqOf, h]
theorem tup_loc (h : S[n]? = some (.lst ds)) : tupleD (.loc n) S = some (.tup ds, S) := by simp only [tupleD, seq_loc h, Option.bind_some]
theorem app_loc {d : D} (h : S[n]? = some (.lst ds)) (hl : ds.length < sizeLine) : appD (.loc n) d S = some (.non, S.set n (.lst (ds ++ [d]))) := by simp only [appD, h, if_pos hl]
theorem pop_loc {d : D} (h : S[n]? = some (.lst ds)) (hl : ds[ds.length - 1]? = some d) : popD (.loc n) S = some (d, S.set n (.lst ds.dropLast)) := by simp only [popD, h, hl, Option.bind_some]
theorem ix_dic {kvs : List (Key × D)} {e d : D} {k : Key} (h : S[n]? = some (.dic kvs)) (hk : keyOf e = some k) (hg : getK kvs k = some d) : ixD (.loc n) e S = some (d, S) := by
  simp only [ixD, h, hk, hg, Option.bind_some]
theorem add_loc {m : Nat} (h : S[n]? = some (.lst ds)) (h' : S[m]? = some (.lst es)) (hl : ds.length + es.length ≤ sizeLine) : addD (.loc n) (.loc m) S = some (.loc S.length, S ++ [.lst (ds ++ es)]) := by
  simp only [addD, h, h', if_pos hl]
end
end DD

/-! The draws of a law: its deck, a number drawn, an item picked. -/
namespace DD
open PySem L2
def F_deck (c0 : Int) : Fn := mkFn 1 5 (mSeq (mAsg (mDict2 "deep" "state" (mLst mNil) (m2 addD (mC (.int c0)) (m1 lenD (mCons (mSl (mV 0) mNoP (mP (mC (.int 63)))) mNil)))) (gN 1))
  (mSeq (mFor (mI (mSl (mV 0) mNoP (mP (mC (.int 63))))) (gN 2) (mSeq (mAsg (m1 absD (mCons (mV 2) mNil)) (gN 3))
  (mSeq (mIte (mB (m2 geD (mV 3) (m2 powD (mC (.int 10)) (mC (.int 18))))) (mPut (m2 addD (mLst (mCons (mV 3) mNil)) (m2 ixD (mV 1) (mC (.str "deep")))) (mV 1) (mC (.str "deep"))) mSkip)
  (mSeq (mAsg (m2 addD (m2 mulD (m2 addD (m2 addD (m2 addD (m2 ixD (mV 1) (mC (.str "state"))) (m2 mulD (mC (.int 2)) (mV 3))) (m1 toIntD (mCons (m2 ltD (mV 2) (mC (.int 0))) mNil))) (mC (.int 1))) (mC (.int 1181783497276652981))) (mC (.int 521288629))) (gN 4))
  (mPut (m2 modD (m1 toIntD (mCons (mV 4) mNil)) (mC (.int 2305843009213693951))) (mV 1) (mC (.str "state")))))))
  (mRet (mV 1))))
def F_draw : Fn := mkFn 2 5 (mSeq (mIte (mB (m2 ltD (mV 1) (mC (.int 2)))) (mRet (mC (.int 0))) mSkip)
  (mSeq (mIte (mB (m2 neD (m2 ixD (mV 0) (mC (.str "deep"))) (mLst mNil))) (mSeq (mAsg (mMeth0 popD (m2 ixD (mV 0) (mC (.str "deep")))) (gN 2))
  (mSeq (mIte (mB (m2 geD (mV 2) (mV 1))) (mDo (mMeth1 appD (m2 ixD (mV 0) (mC (.str "deep"))) (mCons (m2 fdivD (mV 2) (mV 1)) mNil))) mSkip)
  (mRet (m2 modD (m1 toIntD (mCons (mV 2) mNil)) (mV 1))))) mSkip)
  (mSeq (mAsg (m2 modD (m1 toIntD (mCons (m2 addD (m2 mulD (m2 ixD (mV 0) (mC (.str "state"))) (mC (.int 1181783497276652981))) (mC (.int 88172645463325))) mNil)) (mC (.int 2305843009213693951))) (gN 3))
  (mSeq (mPut (mV 3) (mV 0) (mC (.str "state")))
  (mSeq (mAsg (m2 modD (m1 toIntD (mCons (m2 addD (m2 addD (m2 mulD (mV 3) (mV 3)) (m2 mulD (mC (.int 374761393)) (mV 3))) (mC (.int 11))) mNil)) (mC (.int 2305843009213693921))) (gN 4))
  (mRet (m2 modD (m1 toIntD (mCons (m2 fdivD (mV 4) (mC (.int 1048576))) mNil)) (mV 1))))))))
def F_pick : Fn := mkFn 2 2 (mRet (m2 ixD (mV 1) (mCall F_draw (mCons (mV 0) (mCons (m1 lenD (mCons (mV 1) mNil)) mNil)))))
def F_leads : Fn := mkFn 2 2 (mSeq (mIte (mB (m2 inD (mV 0) (mTup (mCons (mC (.str "done")) (mCons (mC (.str "off")) mNil))))) (mRet (mC (.bl false))) mSkip)
  (mRet (m2 inD (mV 1) (mIf (mB (m2 eqD (mV 0) (mC (.str "open")))) (mTup (mCons (mC (.str "open")) (mCons (mC (.str "yes")) (mCons (mC (.str "off")) mNil)))) (mTup (mCons (mC (.str "yes")) (mCons (mC (.str "done")) (mCons (mC (.str "off")) mNil))))))))
def F_pairs : Fn := mkFn 4 9 (mSeq (mPar 4 5 (mCons (mComp [8] (mR1 (mCons (mV 1) mNil)) (gN 8) (mB (m2 neD (mV 8) (mV 2))) (mV 8)) (mCons (mLst mNil) mNil)))
  (mSeq (mFor (mR1 (mCons (mCall F_draw (mCons (mV 0) (mCons (m2 addD (mV 3) (mC (.int 1))) mNil))) mNil)) (gN 6) (mSeq (mAsg (mTup (mCons (mCall F_pick (mCons (mV 0) (mCons (mV 4) mNil))) (mCons (mCall F_pick (mCons (mV 0) (mCons (mLst (mCons (mC (.str "a")) (mCons (mC (.str "b")) (mCons (mC (.str "a")) (mCons (mC (.str "b")) (mCons (mC (.str "ok")) (mCons (mC (.str "sixsix")) mNil))))))) mNil))) mNil))) (gN 7))
  (mIte (mB (m2 notInD (mV 7) (mV 5))) (mDo (mMeth1 appD (mV 5) (mCons (mV 7) mNil))) mSkip)))
  (mRet (mV 5))))
def F_book : Fn := mkFn 4 13 (mSeq (mAsg (m2 addD (mC (.int 1)) (mCall F_draw (mCons (mV 0) (mCons (mV 3) mNil)))) (gN 4))
  (mSeq (mAsg (mLst (mCons (mCall F_pick (mCons (mV 0) (mCons (mLst (mCons (mC (.str "open")) (mCons (mC (.str "open")) (mCons (mC (.str "yes")) mNil)))) mNil))) mNil)) (gN 5))
  (mSeq (mFor (mR1 (mCons (m2 subD (mV 4) (mC (.int 1))) mNil)) (gN 6) (mDo (mMeth1 appD (mV 5) (mCons (mCall F_pick (mCons (mV 0) (mCons (mLst (mCons (mC (.str "open")) (mCons (mC (.str "yes")) (mCons (mC (.str "yes")) (mCons (mC (.str "done")) (mCons (mC (.str "off")) mNil)))))) mNil))) mNil))))
  (mSeq (mAsg (mLst mNil) (gN 7))
  (mSeq (mFor (mR1 (mCons (mCall F_draw (mCons (mV 0) (mCons (mC (.int 6)) mNil))) mNil)) (gN 6) (mSeq (mAsg (mIf (mB (m2 ltD (mV 6) (mC (.int 2)))) (mC (.int 0)) (mCall F_draw (mCons (mV 0) (mCons (mV 4) mNil)))) (gN 8))
  (mSeq (mAsg (mComp [12] (mR2 (mCons (m2 addD (mV 8) (mC (.int 1))) (mCons (mV 4) mNil))) (gN 12) (mB (mCall F_leads (mCons (m2 ixD (mV 5) (mV 8)) (mCons (m2 ixD (mV 5) (mV 12)) mNil)))) (mV 12)) (gN 9))
  (mIte (mB (m2 neD (mV 9) (mLst mNil))) (mSeq (mAsg (m1 tupleD (mCons (m1 sortD (mCons (mCall F_pairs (mCons (mV 0) (mCons (mV 1) (mCons (mV 2) (mCons (mCall F_pick (mCons (mV 0) (mCons (mLst (mCons (mC (.int 0)) (mCons (mC (.int 0)) (mCons (mC (.int 1)) (mCons (mC (.int 1)) (mCons (mC (.int 2)) (mCons (mC (.int 4)) mNil))))))) mNil))) mNil))))) mNil)) mNil)) (gN 10))
  (mSeq (mAsg (m1 tupleD (mCons (mCall F_pairs (mCons (mV 0) (mCons (mV 1) (mCons (mV 2) (mCons (mCall F_pick (mCons (mV 0) (mCons (mLst (mCons (mC (.int 0)) (mCons (mC (.int 1)) (mCons (mC (.int 2)) (mCons (mC (.int 3)) (mCons (mC (.int 6)) mNil)))))) mNil))) mNil))))) mNil)) (gN 11))
  (mDo (mMeth1 appD (mV 7) (mCons (mTup (mCons (mV 8) (mCons (mV 10) (mCons (mCall F_pick (mCons (mV 0) (mCons (mV 9) mNil))) (mCons (mV 11) (mCons (m2 eqD (mCall F_draw (mCons (mV 0) (mCons (mC (.int 3)) mNil))) (mC (.int 0))) mNil)))))) mNil))))) mSkip))))
  (mRet (mTup (mCons (m1 tupleD (mCons (mV 5) mNil)) (mCons (m1 tupleD (mCons (mV 7) mNil)) mNil)))))))))
def F_asking : Fn := mkFn 3 11 (mSeq (mPar 3 4 (mCons (mTup (mCons (mC (.str "open")) (mCons (mC (.str "yes")) (mCons (mC (.str "done")) (mCons (mC (.str "off")) mNil))))) (mCons (mListRg (mRg2 (mC (.int 1)) (mV 1))) mNil)))
  (mSeq (mPar 5 6 (mCons (m1 tupleD (mCons (mComp [9] (mI (mV 4)) (gN 9) mYes (mTup (mCons (mV 9) (mCons (mC (.str "ok")) mNil)))) mNil)) (mCons (m1 tupleD (mCons (mComp [9] (mI (mV 4)) (gN 9) mYes (mTup (mCons (mV 9) (mCons (mV 2) mNil)))) mNil)) mNil)))
  (mSeq (mAsg (mLst (mCons (mTup (mCons (mC (.int 0)) (mCons (mTup mNil) (mCons (mC (.int 1)) (mCons (m1 tupleD (mCons (mComp [9] (mI (mV 4)) (gN 9) mYes (mTup (mCons (mV 9) (mCons (mC (.str "ask")) mNil)))) mNil)) (mCons (m2 eqD (mCall F_draw (mCons (mV 0) (mCons (mC (.int 2)) mNil))) (mC (.int 0))) mNil)))))) mNil)) (gN 7))
  (mSeq (mDo (mMeth1 appD (mV 7) (mCons (mTup (mCons (mC (.int 1)) (mCons (mV 5) (mCons (mC (.int 2)) (mCons (mV 6) (mCons (m2 eqD (mCall F_draw (mCons (mV 0) (mCons (mC (.int 2)) mNil))) (mC (.int 0))) mNil)))))) mNil)))
  (mSeq (mAsg (m2 addD (mV 7) (mComp [9] (mI (mV 4)) (gN 9) mYes (mTup (mCons (mC (.int 1)) (mCons (mTup (mCons (mTup (mCons (mV 9) (mCons (mC (.str "no")) mNil))) mNil)) (mCons (mC (.int 3)) (mCons (mTup mNil) (mCons (mC (.bl false)) mNil)))))))) (gN 7))
  (mSeq (mAsg (mLst (mCons (mTup (mCons (mV 3) (mCons (m1 tupleD (mCons (mV 7) mNil)) mNil))) mNil)) (gN 8))
  (mSeq (mFor (mI (mV 4)) (gN 9) (mSeq (mAsg (mLst (mCons (mTup (mCons (mC (.int 0)) (mCons (mTup (mCons (mTup (mCons (mC (.int 0)) (mCons (mC (.str "ask")) mNil))) mNil)) (mCons (mC (.int 1)) (mCons (mTup (mCons (mTup (mCons (mC (.int 0)) (mCons (mC (.str "ok")) mNil))) mNil)) (mCons (m2 eqD (mCall F_draw (mCons (mV 0) (mCons (mC (.int 2)) mNil))) (mC (.int 0))) mNil)))))) mNil)) (gN 10))
  (mSeq (mDo (mMeth1 appD (mV 10) (mCons (mTup (mCons (mC (.int 0)) (mCons (mTup (mCons (mTup (mCons (mC (.int 0)) (mCons (mC (.str "ask")) mNil))) mNil)) (mCons (mC (.int 3)) (mCons (mTup (mCons (mTup (mCons (mC (.int 0)) (mCons (mC (.str "no")) mNil))) mNil)) (mCons (m2 eqD (mCall F_draw (mCons (mV 0) (mCons (mC (.int 2)) mNil))) (mC (.int 0))) mNil)))))) mNil)))
  (mDo (mMeth1 appD (mV 8) (mCons (mTup (mCons (mV 3) (mCons (m1 tupleD (mCons (m2 addD (mV 10) (mLst (mCons (mTup (mCons (mC (.int 1)) (mCons (mTup (mCons (mTup (mCons (mC (.int 0)) (mCons (mV 2) mNil))) mNil)) (mCons (mC (.int 2)) (mCons (mTup mNil) (mCons (m2 eqD (mCall F_draw (mCons (mV 0) (mCons (mC (.int 2)) mNil))) (mC (.int 0))) mNil)))))) mNil))) mNil)) mNil))) mNil))))))
  (mRet (m1 tupleD (mCons (mV 8) mNil))))))))))
def F_agreement : Fn := mkFn 1 3 (mSeq (mAsg (mCall F_pick (mCons (mV 0) (mCons (mLst (mCons (mC (.int 2)) (mCons (mC (.int 2)) (mCons (mC (.int 3)) (mCons (mC (.int 3)) (mCons (mC (.int 4)) mNil)))))) mNil))) (gN 1))
  (mSeq (mIte (mB (m2 eqD (mCall F_draw (mCons (mV 0) (mCons (mC (.int 3)) mNil))) (mC (.int 0)))) (mRet (mCall F_asking (mCons (mV 0) (mCons (mV 1) (mCons (mCall F_pick (mCons (mV 0) (mCons (mLst (mCons (mC (.str "do")) (mCons (mC (.str "a")) (mCons (mC (.str "ok")) mNil)))) mNil))) mNil))))) mSkip)
  (mRet (m1 tupleD (mCons (mComp [2] (mR1 (mCons (mV 1) mNil)) (gN 2) mYes (mCall F_book (mCons (mV 0) (mCons (mV 1) (mCons (mV 2) (mCons (mCall F_pick (mCons (mV 0) (mCons (mLst (mCons (mC (.int 3)) (mCons (mC (.int 4)) (mCons (mC (.int 5)) (mCons (mC (.int 8)) mNil))))) mNil))) mNil)))))) mNil)))))
/-! ### the deck -/
abbrev deckL (l : Nat) (s : Int) : List (Key × D) := [(.inr "deep", .loc l), (.inr "state", .int s)]
theorem ne_ds : ¬ ((("deep" : Str)) = ("state" : Str)) := by decide +kernel
theorem ne_sd : ¬ ((("state" : Str)) = ("deep" : Str)) := by decide +kernel
theorem get_deep (x y : D) : getK [(.inr "deep", x), (.inr "state", y)] (.inr "deep") = some x := by
  unfold getK
  rw [List.find?_cons_of_pos (by simp)]
  rfl
theorem get_state (x y : D) : getK [(.inr "deep", x), (.inr "state", y)] (.inr "state") = some y := by
  unfold getK
  rw [List.find?_cons_of_neg (by simp [ne_ds]), List.find?_cons_of_pos (by simp)]
  rfl
theorem put_deep (x y z : D) : putD [(.inr "deep", x), (.inr "state", y)] (.inr "deep") z = [(.inr "deep", z), (.inr "state", y)] := by
  unfold putD
  rw [if_pos (by simp)]
  simp [ne_sd]
theorem put_state (x y z : D) : putD [(.inr "deep", x), (.inr "state", y)] (.inr "state") z = [(.inr "deep", x), (.inr "state", z)] := by
  unfold putD
  rw [if_pos (by simp)]
  simp [ne_ds]
/-- the deck stands at dk, its great digits at l -/
structure Deck (S : Sto) (dk l : Nat) : Prop where
  at_ : ∃ s, S[dk]? = some (.dic (deckL l s)) ∧ 0 ≤ s ∧ s < 2305843009213693951
  deep : ∃ ws : List Int, S[l]? = some (.lst (ws.map D.int)) ∧ (∀ w ∈ ws, 0 ≤ w) ∧ ws.length ≤ 1000
  ne : dk ≠ l
/-- all else stays -/
structure Fr (dk l : Nat) (S S' : Sto) : Prop where
  len : S.length ≤ S'.length
  keep : ∀ i, i < S.length → i ≠ dk → i ≠ l → S'[i]? = S[i]?
theorem Fr.refl (dk l : Nat) (S : Sto) : Fr dk l S S := ⟨Nat.le_refl _, fun _ _ _ _ => rfl⟩
theorem Fr.trans {dk l : Nat} {S S1 S2 : Sto} (a : Fr dk l S S1) (b : Fr dk l S1 S2) : Fr dk l S S2 :=
  ⟨Nat.le_trans a.len b.len, fun i h1 h2 h3 => (b.keep i (Nat.lt_of_lt_of_le h1 a.len) h2 h3).trans (a.keep i h1 h2 h3)⟩
theorem Fr.app {dk l : Nat} {S : Sto} (T : Sto) : Fr dk l S (S ++ T) := ⟨by simp, fun i h _ _ => List.getElem?_append_left h⟩
theorem lt_of_get {α : Type} {l : List α} {i : Nat} {a : α} (h : l[i]? = some a) : i < l.length := (List.getElem?_eq_some_iff.mp h).1
theorem Deck.app {S : Sto} {dk l : Nat} (d : Deck S dk l) (T : Sto) : Deck (S ++ T) dk l := by
  obtain ⟨s, h1, h2, h3⟩ := d.at_
  obtain ⟨ws, h4, h5, h6⟩ := d.deep
  exact ⟨⟨s, by rw [List.getElem?_append_left (lt_of_get h1)]; exact h1, h2, h3⟩, ⟨ws, by rw [List.getElem?_append_left (lt_of_get h4)]; exact h4, h5, h6⟩, d.ne⟩
theorem set_get_ne {α : Type} {l : List α} {i j : Nat} {a : α} (h : i ≠ j) : (l.set i a)[j]? = l[j]? := List.getElem?_set_ne h
theorem set_get_eq {α : Type} {l : List α} {i : Nat} {a b : α} (h : l[i]? = some b) : (l.set i a)[i]? = some a := List.getElem?_set_self (lt_of_get h)

/-! ### equal to no list -/
theorem toPy_int (n : Nat) (S : Sto) (i : Int) : toPy n S (.int i) = some (.int i) := by cases n <;> rfl
theorem toPy_str (n : Nat) (S : Sto) (x : Str) : toPy n S (.str x) = some (.str x) := by cases n <;> rfl
theorem toPy_bl (n : Nat) (S : Sto) (b : Bool) : toPy n S (.bl b) = some (.bool b) := by cases n <;> rfl
theorem toPy_non (n : Nat) (S : Sto) : toPy n S .non = some .none := by cases n <;> rfl
theorem mapO_ints (n : Nat) (S : Sto) : ∀ ws : List Int, mapO (toPy n S) (ws.map D.int) = some (ws.map PyData.int)
  | [] => rfl
  | w :: ws => by
    show (toPy n S (.int w)).bind _ = _
    rw [toPy_int, Option.bind_some, mapO_ints n S ws]
    rfl
theorem canLayAll_ints : ∀ ws : List Int, PyData.canLayAll0 (ws.map PyData.int) = true
  | [] => by simp only [List.map_nil, PyData.canLayAll0]
  | w :: ws => by simp only [List.map_cons, PyData.canLayAll0, PyData.canLay0, canLayAll_ints ws, Bool.and_self]
theorem depthAll_ints : ∀ ws : List Int, PyData.depthAll (ws.map PyData.int) = 0
  | [] => by simp only [List.map_nil, PyData.depthAll]
  | w :: ws => by simp only [List.map_cons, PyData.depthAll, PyData.depth, depthAll_ints ws, Nat.max_self]
theorem shaped_ints (ws : List Int) : SeqAt.shaped (.list (ws.map PyData.int)) = true := by
  unfold SeqAt.shaped
  rw [Bool.and_eq_true]
  refine ⟨by simp only [PyData.canLay0]; exact canLayAll_ints ws, decide_eq_true ?_⟩
  simp only [PyData.depth, depthAll_ints]
  decide
theorem eqB_ints {S : Sto} {l q : Nat} {ws vs : List Int} (h : S[l]? = some (.lst (ws.map D.int))) (h' : S[q]? = some (.lst (vs.map D.int))) :
    eqB S (.loc l) (.loc q) = some (PyData.eqvAll (ws.map PyData.int) (vs.map PyData.int)) := by
  have e1 : toPy 64 S (.loc l) = some (.list (ws.map PyData.int)) := by
    simp only [toPy, h, mapO_ints, Option.bind_some]
  have e2 : toPy 64 S (.loc q) = some (.list (vs.map PyData.int)) := by
    simp only [toPy, h', mapO_ints, Option.bind_some]
  show (toPy 64 S (.loc l)).bind (fun p => (toPy 64 S (.loc q)).bind fun q => if SeqAt.shaped p = true ∧ SeqAt.shaped q = true then some (PyData.eqv p q) else none) = _
  rw [e1, e2, Option.bind_some, Option.bind_some, if_pos ⟨shaped_ints ws, shaped_ints vs⟩]
  simp only [PyData.eqv]
theorem eqvAll_nil (ws : List Int) : PyData.eqvAll (ws.map PyData.int) (([] : List Int).map PyData.int) = ws.isEmpty := by
  cases ws <;> simp [PyData.eqvAll]

/-! ### a number drawn -/
theorem deck_deep {S : Sto} {dk l : Nat} {s : Int} (h : S[dk]? = some (.dic (deckL l s))) : ixD (.loc dk) (.str "deep") S = some (.loc l, S) := ix_dic h rfl (get_deep _ _)
theorem deck_state {S : Sto} {dk l : Nat} {s : Int} (h : S[dk]? = some (.dic (deckL l s))) : ixD (.loc dk) (.str "state") S = some (.int s, S) := ix_dic h rfl (get_state _ _)
theorem size_1000 {n : Nat} (h : n ≤ 1000) : n < sizeLine := Nat.lt_of_le_of_lt h (by decide)
theorem fmod_bounds {a b : Int} (h : 0 < b) : 0 ≤ a.fmod b ∧ a.fmod b < b := by
  rw [Int.fmod_eq_emod_of_nonneg a (Int.le_of_lt h)]
  exact ⟨Int.emod_nonneg a (by omega), Int.emod_lt_of_pos a h⟩
theorem Deck.state {S : Sto} {dk l : Nat} (h : Deck S dk l) {s : Int} (h0 : 0 ≤ s) (h1 : s < 2305843009213693951) : Deck (S.set dk (.dic (deckL l s))) dk l := by
  obtain ⟨s', hs, _⟩ := h.at_
  obtain ⟨ws, hl, hw⟩ := h.deep
  exact ⟨⟨s, set_get_eq hs, h0, h1⟩, ⟨ws, (set_get_ne h.ne).trans hl, hw⟩, h.ne⟩
theorem Deck.digits {S : Sto} {dk l : Nat} (h : Deck S dk l) {ws : List Int} (h0 : ∀ w ∈ ws, 0 ≤ w) (h1 : ws.length ≤ 1000) : Deck (S.set l (.lst (ws.map D.int))) dk l := by
  obtain ⟨s', hs, hb⟩ := h.at_
  obtain ⟨ws', hl, hw⟩ := h.deep
  exact ⟨⟨s', (set_get_ne (Ne.symm h.ne)).trans hs, hb⟩, ⟨ws, set_get_eq hl, h0, h1⟩, h.ne⟩
theorem Fr.setK {dk l : Nat} {S : Sto} (c : Cell) : Fr dk l S (S.set dk c) := ⟨by simp, fun i _ h _ => set_get_ne (Ne.symm h)⟩
theorem Fr.setL {dk l : Nat} {S : Sto} (c : Cell) : Fr dk l S (S.set l c) := ⟨by simp, fun i _ _ h => set_get_ne (Ne.symm h)⟩
theorem draw_ok {S : Sto} {dk l : Nat} (many : Int) (h : Deck S dk l) (hm : many < 1000) :
    wO (F_draw [.loc dk, .int many] S) fun p => ∃ r, p.1 = .int r ∧ 0 ≤ r ∧ (1 ≤ many → r < many) ∧ Deck p.2 dk l ∧ Fr dk l S p.2 := by
  obtain ⟨s, hs, hs0, hs1⟩ := h.at_
  obtain ⟨ws, hl, hw, hwl⟩ := h.deep
  have ne := h.ne
  have ld : dk < S.length := lt_of_get hs
  have ll : l < S.length := lt_of_get hl
  have q1 : (S ++ [Cell.lst []])[dk]? = some (.dic (deckL l s)) := by rw [List.getElem?_append_left ld]; exact hs
  have q2 : (S ++ [Cell.lst []])[l]? = some (.lst (ws.map D.int)) := by rw [List.getElem?_append_left ll]; exact hl
  have q3 : (S ++ [Cell.lst []])[S.length]? = some (.lst (([] : List Int).map D.int)) := by simp
  have en : neD (.loc l) (.loc S.length) (S ++ [Cell.lst []]) = some (.bl (!ws.isEmpty), S ++ [Cell.lst []]) := by
    unfold neD
    rw [eqB_ints q2 q3, eqvAll_nil]
    rfl
  refine w_fn rfl ?_
  by_cases h2 : many < 2
  · simp [h2]
    exact ⟨by omega, h, Fr.refl _ _ _⟩
  have hmp : 0 < many := by omega
  have hmn : ¬ many = 0 := by omega
  have hma : many.natAbs < 1073741824 := by omega
  have fr0 : Fr dk l S (S ++ [Cell.lst []]) := Fr.app _
  have d0 : Deck (S ++ [Cell.lst []]) dk l := h.app _
  have sz2 : 2 < sizeLine := by decide
  cases ws with
  | nil =>
    simp only [List.isEmpty_nil, Bool.not_true] at en
    simp [h2, deck_deep hs, en, deck_state q1, q1, put_state, sz2, hmn]
    have b1 := fmod_bounds (a := s * 1181783497276652981 + 88172645463325) (b := 2305843009213693951) (by decide)
    generalize (s * 1181783497276652981 + 88172645463325).fmod 2305843009213693951 = u at b1 ⊢
    have b2 := fun a => fmod_bounds (a := a) hmp
    have b3 : -18446744073709551616 < u ∧ u < 18446744073709551616 := by omega
    simp [b3]
    exact ⟨(b2 _).1, fun _ => (b2 _).2, d0.state b1.1 b1.2, fr0.trans (Fr.setK _)⟩
  | cons w0 wr =>
    simp only [List.isEmpty_cons, Bool.not_false] at en
    obtain ⟨A, z, eA⟩ : ∃ A z, w0 :: wr = A ++ [z] := ⟨(w0 :: wr).dropLast, (w0 :: wr).getLast (by simp), (List.dropLast_concat_getLast (by simp)).symm⟩
    rw [eA] at hw hwl q2
    have hz : 0 ≤ z := hw z (by simp)
    have hA : ∀ w ∈ A, 0 ≤ w := fun w hw' => hw w (by simp [hw'])
    have hAl : A.length + 1 ≤ 1000 := by simpa using hwl
    have q4 : ((A ++ [z]).map D.int)[((A ++ [z]).map D.int).length - 1]? = some (.int z) := by simp
    have q5 : ((A ++ [z]).map D.int).dropLast = A.map D.int := by simp
    have p1 := pop_loc q2 q4
    rw [q5] at p1
    have d1 : Deck ((S ++ [Cell.lst []]).set l (.lst (A.map D.int))) dk l := d0.digits hA (by omega)
    have f1 : Fr dk l S ((S ++ [Cell.lst []]).set l (.lst (A.map D.int))) := fr0.trans (Fr.setL _)
    have b2 := fun a => fmod_bounds (a := a) hmp
    obtain ⟨s1, k1, _⟩ := d1.at_
    have k2 : ((S ++ [Cell.lst []]).set l (.lst (A.map D.int)))[l]? = some (.lst (A.map D.int)) := set_get_eq q2
    simp [h2, deck_deep hs, en, deck_deep q1, lst_loc q2, p1, hmn, deck_deep k1, lst_loc k2, hma]
    by_cases hb : z < many
    · exact .inl ⟨hb, (b2 _).1, fun _ => (b2 _).2, d1, f1⟩
    · refine .inr ⟨by omega, ?_⟩
      have a1 := app_loc (d := .int (z.fdiv many)) k2 (by rw [List.length_map]; exact size_1000 (by omega))
      have hq : 0 ≤ z.fdiv many := by rw [Int.fdiv_eq_ediv_of_nonneg z (Int.le_of_lt hmp)]; exact Int.ediv_nonneg hz (by omega)
      have d2 : Deck (((S ++ [Cell.lst []]).set l (.lst (A.map D.int))).set l (.lst ((A ++ [z.fdiv many]).map D.int))) dk l :=
        d1.digits (fun w hw' => by rcases List.mem_append.mp hw' with q | q; exact hA w q; rw [List.mem_singleton.mp q]; exact hq) (by simp; omega)
      rw [List.map_append] at d2
      simp [a1, hmn]
      simp at d2
      exact ⟨(b2 _).1, fun _ => (b2 _).2, d2, f1.trans (by have := Fr.setL (dk := dk) (l := l) (S := (S ++ [Cell.lst []]).set l (.lst (A.map D.int))) (.lst (A.map D.int ++ [D.int (z.fdiv many)])); simpa using this)⟩

/-! ### an item picked -/
theorem atI_lt {α : Type} {xs : List α} {i : Int} (h0 : 0 ≤ i) (h1 : i < xs.length) : ∃ x, atI xs i = some x ∧ x ∈ xs := by
  have hn : i.toNat < xs.length := by omega
  refine ⟨xs[i.toNat], ?_, List.getElem_mem hn⟩
  unfold atI ixN
  rw [if_pos h0, if_pos h1, Option.bind_some, List.getElem?_eq_getElem hn]
theorem pick_ok {S : Sto} {dk l q : Nat} {xs : List D} (h : Deck S dk l) (hq : S[q]? = some (.lst xs)) (hn : xs ≠ []) (hl : xs.length < 1000) (n1 : q ≠ dk) (n2 : q ≠ l) :
    wO (F_pick [.loc dk, .loc q] S) fun p => p.1 ∈ xs ∧ Deck p.2 dk l ∧ Fr dk l S p.2 := by
  have hp : 0 < xs.length := List.length_pos_iff.mpr hn
  refine w_fn rfl ?_
  simp [len_loc hq]
  refine (draw_ok _ h (by omega)).imp fun p hp' => ?_
  obtain ⟨r, hr, r0, r1, d1, f1⟩ := hp'
  rw [hr]
  obtain ⟨x, hx, hm⟩ := atI_lt r0 (r1 (by omega))
  have hq' : p.2[q]? = some (.lst xs) := (f1.keep q (lt_of_get hq) n1 n2).trans hq
  simp [ix_loc hq', hx]
  exact ⟨hm, d1, f1⟩
/-- of a list just written -/
theorem pick_new {S : Sto} {dk l : Nat} {xs : List D} (h : Deck S dk l) (hn : xs ≠ []) (hl : xs.length < 1000) :
    wO (F_pick [.loc dk, .loc S.length] (S ++ [.lst xs])) fun p => p.1 ∈ xs ∧ Deck p.2 dk l ∧ Fr dk l S p.2 := by
  obtain ⟨s, hs, _⟩ := h.at_
  obtain ⟨ws, hw, _⟩ := h.deep
  refine (pick_ok (h.app _) (by simp) hn hl (Nat.ne_of_gt (lt_of_get hs)) (Nat.ne_of_gt (lt_of_get hw))).imp fun p hp => ⟨hp.1, hp.2.1, (Fr.app _).trans hp.2.2⟩
end DD

/-! Data that holds no place: how it is shown, and when two are equal. -/
namespace DD
open PySem L2
/-- data of so many layers and of so much weight -/
def Dat (k w : Nat) (d : D) : Prop := ∃ p : PyData, (∀ S n, k ≤ n → toPy n S d = some p) ∧ p.canLay0 = true ∧ p.leavesShort 13 = true ∧ p.depth ≤ k ∧ p.weight ≤ w ∧ p.showable = true
def DatL (k w : Nat) (ds : List D) : Prop := ∃ ps : List PyData, (∀ S n, k ≤ n → mapO (toPy n S) ds = some ps) ∧ PyData.canLayAll0 ps = true ∧ PyData.leavesShortAll 13 ps = true ∧ PyData.depthAll ps ≤ k ∧ PyData.weightAll ps ≤ w ∧ PyData.showableAll ps = true
theorem Dat.up {k w k' w' : Nat} {d : D} (h : Dat k w d) (a : k ≤ k') (b : w ≤ w') : Dat k' w' d := by
  obtain ⟨p, h1, h2, h3, h4, h5, h6⟩ := h
  exact ⟨p, fun S n q => h1 S n (by omega), h2, h3, by omega, by omega, h6⟩
theorem DatL.up {k w k' w' : Nat} {d : List D} (h : DatL k w d) (a : k ≤ k') (b : w ≤ w') : DatL k' w' d := by
  obtain ⟨p, h1, h2, h3, h4, h5, h6⟩ := h
  exact ⟨p, fun S n q => h1 S n (by omega), h2, h3, by omega, by omega, h6⟩
theorem DatL.nil {k : Nat} : DatL k 0 [] := ⟨[], fun _ _ _ => rfl, by simp only [PyData.canLayAll0], by simp only [PyData.leavesShortAll], by simp [PyData.depthAll], by simp [PyData.weightAll], by simp only [PyData.showableAll]⟩
theorem DatL.cons {k w v : Nat} {d : D} {ds : List D} (h : Dat k w d) (t : DatL k v ds) : DatL k (w + 1 + v) (d :: ds) := by
  obtain ⟨p, h1, h2, h3, h4, h5, h6⟩ := h
  obtain ⟨ps, g1, g2, g3, g4, g5, g6⟩ := t
  refine ⟨p :: ps, fun S n q => ?_, by simp only [PyData.canLayAll0, h2, g2, Bool.and_self], by simp only [PyData.leavesShortAll, h3, g3, Bool.and_self], ?_, ?_, by simp only [PyData.showableAll, h6, g6, Bool.and_self]⟩
  · show (toPy n S d).bind (fun y => (mapO (toPy n S) ds).bind fun ys => some (y :: ys)) = _
    rw [h1 S n q, g1 S n q]
    rfl
  · simp only [PyData.depthAll]; omega
  · simp only [PyData.weightAll]; omega
theorem DatL.all {k w : Nat} : ∀ {ds : List D}, (∀ d ∈ ds, Dat k w d) → DatL k (ds.length * (w + 1)) ds
  | [], _ => by simpa using DatL.nil
  | d :: ds, h => by
    refine ((h d (by simp)).up (Nat.le_refl _) (Nat.le_refl _) |> fun a => DatL.cons a (DatL.all fun e he => h e (by simp [he]))).up (Nat.le_refl _) ?_
    rw [List.length_cons, Nat.succ_mul]
    omega
theorem DatL.most {k w n : Nat} {ds : List D} (h : ∀ d ∈ ds, Dat k w d) (hn : ds.length ≤ n) : DatL k (n * (w + 1)) ds := (DatL.all h).up (Nat.le_refl _) (Nat.mul_le_mul_right _ hn)
theorem DatL.tup {k w : Nat} {ds : List D} (h : DatL k w ds) : Dat (k + 1) w (.tup ds) := by
  obtain ⟨p, h1, h2, h3, h4, h5, h6⟩ := h
  refine ⟨.tuple p, fun S n q => ?_, by simpa only [PyData.canLay0] using h2, by simpa only [PyData.leavesShort] using h3, by simp only [PyData.depth]; omega, by simpa only [PyData.weight] using h5, by simpa only [PyData.showable] using h6⟩
  cases n with
  | zero => omega
  | succ n =>
    show (mapO (toPy n S) ds).bind _ = _
    rw [h1 S n (by omega)]
    rfl
theorem dat_int {k : Nat} {i : Int} (h : i.natAbs < 1024) : Dat k 10 (.int i) := by
  refine ⟨.int i, fun S n _ => toPy_int n S i, by simp only [PyData.canLay0], ?_, by simp [PyData.depth], ?_, ?_⟩
  · simp only [PyData.leavesShort, decide_eq_true_eq]
    exact PyData.shown_int_le (Nat.lt_of_lt_of_le h (by decide))
  · simp only [PyData.weight]
    split
    · omega
    · rename_i g
      have := (Nat.log2_lt (n := i.natAbs) (k := 10) (by intro q; apply g; simp; omega)).mpr (by simpa using h)
      omega
  · simp only [PyData.showable, decide_eq_true_eq]
    by_cases q : i.natAbs = 0
    · rw [q]; decide
    · have := (Nat.log2_lt (n := i.natAbs) (k := 10) q).mpr (by simpa using h)
      omega
theorem dat_bl {k : Nat} {b : Bool} : Dat k 0 (.bl b) := ⟨.bool b, fun S n _ => toPy_bl n S b, by simp only [PyData.canLay0], by simp only [PyData.leavesShort], by simp [PyData.depth], by simp [PyData.weight], by simp only [PyData.showable]⟩
theorem dat_str {k w : Nat} {x : Str} (h : PyData.canLay0 (.str x) = true) (hs : PyData.leavesShort 13 (.str x) = true) (hw : x.cps.size ≤ w) : Dat k w (.str x) :=
  ⟨.str x, fun S n _ => toPy_str n S x, h, hs, by simp [PyData.depth], by simpa [PyData.weight] using hw, by simp only [PyData.showable]⟩
/-- shown -/
theorem repr_tup {k w : Nat} {ds : List D} (h : Dat k w (.tup ds)) (hk : k ≤ 60) (hw : w ≤ 1000000) : ∃ z : Str, ∀ S, reprD (.tup ds) S = some (.str z, S) := by
  obtain ⟨p, h1, h2, h3, h4, h5, h6⟩ := h
  have e := PyData.shown_le 13 (by decide) p h3
  have sz : sizeLine = 16777216 := by decide
  obtain ⟨q, rfl⟩ : ∃ q, p = .tuple q := by
    have := h1 [] 64 (by omega)
    simp only [toPy] at this
    obtain ⟨y, _, h⟩ := obind this
    cases h
    exact ⟨y, rfl⟩
  refine ⟨(PyData.tuple q).shown, fun S => ?_⟩
  unfold reprD
  rw [h1 S 64 (by omega), Option.bind_some, if_pos ⟨h6, by omega, by omega⟩]
theorem repr_lst {k w : Nat} {ds : List D} (h : DatL k w ds) (hk : k ≤ 60) (hw : w ≤ 1000000) : ∃ z : Str, ∀ S n, S[n]? = some (.lst ds) → reprD (.loc n) S = some (.str z, S) := by
  obtain ⟨p, h1, h2, h3, h4, h5, h6⟩ := h
  have e := PyData.shown_le 13 (by decide) (.list p) (by simpa only [PyData.leavesShort] using h3)
  have sz : sizeLine = 16777216 := by decide
  have wl : (PyData.list p).weight = PyData.weightAll p := by simp only [PyData.weight]
  have dl : (PyData.list p).depth = PyData.depthAll p + 1 := by simp only [PyData.depth]
  refine ⟨(PyData.list p).shown, fun S n hn => ?_⟩
  unfold reprD
  have t : toPy 64 S (.loc n) = some (.list p) := by
    simp only [toPy, hn, h1 S 63 (by omega), Option.bind_some]
  rw [t, Option.bind_some, if_pos ⟨by simpa only [PyData.showable] using h6, by omega, by omega⟩]
/-! ### houses and words -/
theorem eq_pair {a b c d : Int} {S : Sto} : eqD (.tup [.int a, .int b]) (.tup [.int c, .int d]) S = some (.bl (decide (a = c ∧ b = d)), S) := by
  have t : ∀ a b : Int, toPy 64 S (.tup [.int a, .int b]) = some (.tuple [.int a, .int b]) := fun _ _ => rfl
  have s : ∀ a b : Int, SeqAt.shaped (.tuple [.int a, .int b]) = true := fun _ _ => by
    unfold SeqAt.shaped
    simp [PyData.canLay0, PyData.canLayAll0, PyData.depth, PyData.depthAll]
  show ((toPy 64 S (.tup [.int a, .int b])).bind fun p => (toPy 64 S (.tup [.int c, .int d])).bind fun q => if SeqAt.shaped p = true ∧ SeqAt.shaped q = true then some (PyData.eqv p q) else none).bind _ = _
  rw [t, t, Option.bind_some, Option.bind_some, if_pos ⟨s _ _, s _ _⟩, Option.bind_some]
  by_cases h1 : a = c <;> by_cases h2 : b = d <;> simp [PyData.eqv, PyData.eqvAll, h1, h2]
/-- a house and a word -/
def WordsAll : List Str := ["a", "b", "ok", "sixsix", "do", "ask", "no"]
def IsPair (d : D) : Prop := ∃ a w, d = .tup [.int a, .str w] ∧ 0 ≤ a ∧ a < 100 ∧ w ∈ WordsAll
theorem dat_word {k : Nat} {w : Str} (h : w ∈ WordsAll) : Dat k 6 (.str w) := by
  unfold WordsAll at h
  simp only [List.mem_cons, List.not_mem_nil, or_false] at h
  rcases h with rfl | rfl | rfl | rfl | rfl | rfl | rfl <;> exact dat_str (by decide +kernel) (by decide +kernel) (by decide +kernel)
theorem dat_pair {d : D} (h : IsPair d) : Dat 1 18 d := by
  obtain ⟨a, w, rfl, h0, h1, hw⟩ := h
  exact (DatL.cons (dat_int (by omega)) (DatL.cons (dat_word hw) DatL.nil)).tup.up (Nat.le_refl _) (by omega)
theorem in_pairs {S : Sto} {d : D} {n : Nat} {ps : List D} (hd : IsPair d) (hn : S[n]? = some (.lst ps)) (hp : ∀ p ∈ ps, IsPair p) : ∃ b, inB S d (.loc n) = some b := by
  obtain ⟨p, h1, h2, _, h4, _⟩ := dat_pair hd
  obtain ⟨qs, g1, g2, _, g4, _⟩ := DatL.all fun p q => dat_pair (hp p q)
  obtain ⟨a, w, rfl, _⟩ := hd
  have e1 := h1 S 64 (by omega)
  have e2 : toPy 64 S (.loc n) = some (.list qs) := by
    simp only [toPy, hn, g1 S 63 (by omega), Option.bind_some]
  have s1 : SeqAt.shaped p = true := by
    unfold SeqAt.shaped; rw [Bool.and_eq_true]; exact ⟨h2, decide_eq_true (by omega)⟩
  have s2 : SeqAt.shaped (.list qs) = true := by
    unfold SeqAt.shaped; rw [Bool.and_eq_true]
    exact ⟨by simpa only [PyData.canLay0] using g2, decide_eq_true (by simp only [PyData.depth]; omega)⟩
  unfold inB
  rw [seq_loc hn, Option.bind_some, if_neg (by simp [flatD])]
  simp only [e1, e2, Option.bind_some, if_pos (And.intro s1 s2)]
  exact ⟨_, rfl⟩
/-! ### the deck -/
def DeckAt (S : Sto) (cut : List D) (n : Nat) : Prop := S[3]? = some (.lst cut) ∧ ∃ (l : Nat) (s : Int) (ws : List Int), S[2]? = some (.dic (deckL l s)) ∧ 0 ≤ s ∧ s < 2305843009213693951 ∧ S[l]? = some (.lst (ws.map D.int)) ∧ (∀ w ∈ ws, (0 : Int) ≤ w) ∧ ws.length + n ≤ 1000 ∧ l ≠ 2
theorem deck_ok {c0 : Int} (h0 : 0 ≤ c0) (h1 : c0 < 100000) (ns : List Int) (hn : ns.length ≤ 63) : wO (F_deck c0 [.rol (ns.map D.int)] []) fun p => ∃ dk l, p.1 = .loc dk ∧ Deck p.2 dk l := by
  refine w_fn rfl ?_
  generalize hcut : cutD (ns.map D.int) none (some 63) = cut
  have ck : ∀ d ∈ cut, ∃ i, d = .int i := fun d hd => by
    rw [← hcut] at hd
    have := List.mem_of_mem_drop (List.mem_of_mem_take hd)
    obtain ⟨i, _, e⟩ := List.mem_map.mp this
    exact ⟨i, e.symm⟩
  have cl : cut.length ≤ 63 := by
    rw [← hcut]
    unfold cutD
    rw [List.length_take, List.length_drop, List.length_map]
    omega
  simp [hcut, len_loc]
  rw [show seqI (.loc 3) _ = some (cut, _, _) from rfl]
  refine wO_some.mpr ?_
  refine for_w (fun ds ρ S => DeckAt S cut ds.length ∧ (∀ d ∈ ds, ∃ i, d = .int i) ∧ (∃ r x y z, ρ = [r, some (.loc 2), x, y, z]))
    (fun _ _ => False) (fun _ _ => False) ?_ ?_ ?_ (fun _ _ h => h.elim) (fun _ _ h => h.elim) _ _ _ ?_
  · rintro ds ρ S ⟨⟨h, _⟩, _⟩
    simp [h]
  · rintro d ds ρ S ⟨⟨h3, l, s, ws, hs, hs0, hs1, hl, hw, hwl, ne⟩, hi, ⟨r, x, y, z, rfl⟩⟩
    obtain ⟨i, rfl⟩ := hi d (by simp)
    have hi' : ∀ d ∈ ds, ∃ i, d = .int i := fun d hd => hi d (by simp [hd])
    have nat : 2 < sizeLine := by decide
    have sz : sizeLine = 16777216 := by decide
    rw [List.length_cons] at hwl
    generalize hv : (if i < 0 then -i else i) = v
    have hv0 : 0 ≤ v := by subst hv; split <;> omega
    have fin : ∀ (S' : Sto) (l' : Nat) (ws' : List Int), S'[3]? = some (.lst cut) → S'[2]? = some (.dic (deckL l' s)) → S'[l']? = some (.lst (ws'.map D.int)) → (∀ w ∈ ws', (0 : Int) ≤ w) → ws'.length + ds.length ≤ 1000 → l' ≠ 2 → ∀ m : Int,
        DeckAt (S'.set 2 (.dic (deckL l' (m.fmod 2305843009213693951)))) cut ds.length := by
      intro S' l' ws' k3 k2 kl hw' hl' ne' m
      have b := fmod_bounds (a := m) (b := 2305843009213693951) (by decide)
      exact ⟨(set_get_ne (by decide)).trans k3, l', _, ws', set_get_eq k2, b.1, b.2, (set_get_ne (Ne.symm ne')).trans kl, hw', hl', ne'⟩
    simp [hv]
    by_cases hb : v < 1000000000000000000
    · refine .inl ⟨hb, ?_⟩
      have f := fin S l ws h3 hs hl hw (by omega) ne
      simp [deck_state hs, hs, put_state, nat, f]
      exact hi'
    · refine .inr ⟨by omega, ?_⟩
      have l2 : 2 < S.length := lt_of_get hs
      have l3 : 3 < S.length := lt_of_get h3
      have ll : l < S.length := lt_of_get hl
      have q3 : ∀ T, (S ++ T)[3]? = some (.lst cut) := fun T => by rw [List.getElem?_append_left l3]; exact h3
      have q2 : ∀ T, (S ++ T)[2]? = some (.dic (deckL l s)) := fun T => by rw [List.getElem?_append_left l2]; exact hs
      have ql : (S ++ [.lst [.int v]])[l]? = some (.lst (ws.map D.int)) := by rw [List.getElem?_append_left ll]; exact hl
      have qn : (S ++ [.lst [.int v]])[S.length]? = some (.lst [.int v]) := by simp
      have ad := add_loc qn ql (by simp; omega)
      have f := fin ((S ++ [Cell.lst [.int v], Cell.lst (.int v :: ws.map D.int)]).set 2 (.dic (deckL (S.length + 1) s))) (S.length + 1) (v :: ws) ((set_get_ne (by decide)).trans (q3 _)) (set_get_eq (q2 _)) ((set_get_ne (by omega)).trans (by simp)) (fun w hw' => by rcases List.mem_cons.mp hw' with e | e; exact e ▸ hv0; exact hw w e) (by rw [List.length_cons]; omega) (by omega)
      have k2 : ((S ++ [Cell.lst [.int v], Cell.lst (.int v :: ws.map D.int)]).set 2 (.dic (deckL (S.length + 1) s)))[2]? = some (.dic (deckL (S.length + 1) s)) := set_get_eq (q2 _)
      simp [deck_deep (q2 _), ad, q2, put_deep, nat]
      simp [deck_state k2, k2, put_state, nat]
      simp at f
      exact ⟨f _, hi'⟩
  · rintro ρ S ⟨⟨h3, l, s, ws, hs, hs0, hs1, hl, hw, hwl, ne⟩, hi, ⟨r, x, y, z, rfl⟩⟩
    simp
    exact ⟨l, ⟨s, hs, hs0, hs1⟩, ⟨ws, hl, hw, by simpa using hwl⟩, Ne.symm ne⟩
  · refine ⟨⟨rfl, 0, _, [], rfl, ?_, ?_, rfl, by simp, by simp; omega, by decide⟩, ck, ⟨_, _, _, _, rfl⟩⟩
    · omega
    · omega
end DD

/-! The agreements that a law draws: their shape. -/
namespace DD
open PySem L2
theorem Deck.lt {S : Sto} {dk l : Nat} (h : Deck S dk l) : dk < S.length ∧ l < S.length := by
  obtain ⟨s, hs, _⟩ := h.at_
  obtain ⟨ws, hl, _⟩ := h.deep
  exact ⟨lt_of_get hs, lt_of_get hl⟩
theorem Fr.get {dk l : Nat} {S S' : Sto} (f : Fr dk l S S') {i : Nat} {c : Cell} (h : S[i]? = some c) (h1 : i ≠ dk) (h2 : i ≠ l) : S'[i]? = some c := (f.keep i (lt_of_get h) h1 h2).trans h
theorem Fr.setNew {dk l : Nat} {S S2 : Sto} (f : Fr dk l S S2) {i : Nat} (h : S.length ≤ i) (c : Cell) : Fr dk l S (S2.set i c) :=
  ⟨by rw [List.length_set]; exact f.len, fun j h1 h2 h3 => (set_get_ne (by omega)).trans (f.keep j h1 h2 h3)⟩
theorem Deck.setO {S : Sto} {dk l : Nat} (d : Deck S dk l) {i : Nat} (h1 : i ≠ dk) (h2 : i ≠ l) (c : Cell) : Deck (S.set i c) dk l := by
  obtain ⟨s, h3, h4⟩ := d.at_
  obtain ⟨ws, h5, h6⟩ := d.deep
  exact ⟨⟨s, (set_get_ne h1).trans h3, h4⟩, ⟨ws, (set_get_ne h2).trans h5, h6⟩, d.ne⟩
theorem rngL_mem : ∀ (n : Nat) (lo i : Int), lo ≤ i → i < lo + n → D.int i ∈ rngL lo n
  | 0, _, _, _, h => by omega
  | n + 1, lo, i, h0, h1 => by
    unfold rngL
    by_cases e : i = lo
    · rw [e]; exact List.mem_cons_self
    · exact List.mem_cons_of_mem _ (rngL_mem n (lo + 1) i (by omega) (by omega))
theorem rng_mem {n i : Int} (h : 0 ≤ i) (h' : i < n) : D.int i ∈ rngL 0 n.toNat := rngL_mem _ _ _ h (by omega)
theorem rngL_int {d : D} : ∀ (n : Nat) (lo : Int), d ∈ rngL lo n → ∃ i, d = .int i ∧ lo ≤ i ∧ i < lo + n
  | 0, _, h => by simp [rngL] at h
  | n + 1, lo, h => by
    unfold rngL at h
    rcases List.mem_cons.mp h with e | e
    · exact ⟨lo, e, by omega, by omega⟩
    · obtain ⟨i, h1, h2, h3⟩ := rngL_int n (lo + 1) e
      exact ⟨i, h1, by omega, by omega⟩
theorem rng_int {n : Int} (hn : n ≤ 4) : ∀ d ∈ rngL 0 n.toNat, ∃ i, d = .int i ∧ 0 ≤ i ∧ i < 100 := fun d hd => by
  obtain ⟨i, h1, h2, h3⟩ := rngL_int _ _ hd
  exact ⟨i, h1, h2, by omega⟩
theorem in_flat {d : D} {ds : List D} {S : Sto} (h : flatD d = true) (h' : ds.all flatD = true) : inD d (.tup ds) S = some (.bl (ds.any fun y => eqF y d), S) := by
  unfold inD inB
  show ((some ds).bind _).bind _ = _
  rw [Option.bind_some, if_pos ⟨h, h'⟩]
  rfl
theorem leads_ok {a b : Str} {S : Sto} : wO (F_leads [.str a, .str b] S) fun p => ∃ b, p = (.bl b, S) := by
  refine w_fn rfl ?_
  have f : ∀ x y : Str, inD (.str x) (.tup [.str y, .str "off"]) S = _ := fun x y => in_flat rfl rfl
  have g : ∀ x y z : Str, inD (.str x) (.tup [.str y, .str z, .str "off"]) S = _ := fun x y z => in_flat rfl rfl
  simp [f, g]
  grind
theorem pairs_ok {S : Sto} {dk l : Nat} {n house most : Int} (h : Deck S dk l) (hn : 2 ≤ n) (hn' : n ≤ 4) (hm0 : 0 ≤ most) (hm : most ≤ 6) :
    wO (F_pairs [.loc dk, .int n, .int house, .int most] S) fun p => ∃ q ps, p.1 = .loc q ∧ S.length ≤ q ∧ p.2[q]? = some (.lst ps) ∧ (∀ x ∈ ps, IsPair x) ∧ ps.length ≤ 6 ∧ Deck p.2 dk l ∧ Fr dk l S p.2 := by
  refine w_fn rfl ?_
  obtain ⟨ld, ll⟩ := h.lt
  have nat : sizeLine = 16777216 := by decide
  have rn : rngOk n = true := by unfold rngOk; simp; omega
  simp [rn]
  refine comp_w (fun ds acc S' => (∀ d ∈ ds, ∃ i, d = .int i ∧ 0 ≤ i ∧ i < 100) ∧ (∀ d ∈ acc, ∃ i, d = .int i ∧ 0 ≤ i ∧ i < 100) ∧ acc.length + ds.length ≤ 4 ∧ (acc ≠ [] ∨ ∃ d ∈ ds, d ≠ .int house) ∧ S' = S) ?_ ?_ ?_ _ _ _ ?_
  · intros; trivial
  · rintro d ds acc S' ⟨h1, h2, h3, h4, rfl⟩
    obtain ⟨i, rfl, i0, i1⟩ := h1 d (by simp)
    have k1 : ∀ d ∈ ds, ∃ i, d = D.int i ∧ 0 ≤ i ∧ i < 100 := fun d hd => h1 d (by simp [hd])
    rw [List.length_cons] at h3
    simp [wipeE]
    by_cases e : i = house
    · refine .inl ⟨e, k1, h2, by omega, ?_⟩
      rcases h4 with h4 | ⟨d, hd, ne⟩
      · exact .inl h4
      · rcases List.mem_cons.mp hd with q | q
        · exact (ne (q.trans (congrArg D.int e))).elim
        · exact .inr ⟨d, q, ne⟩
    · exact .inr ⟨e, by omega, k1, fun d hd => hd.elim (h2 d) fun q => ⟨i, q, i0, i1⟩, by omega⟩
  · rintro acc S' ⟨_, h2, h3, h4, rfl⟩
    have h4 : acc ≠ [] := h4.resolve_right (by simp)
    have hA : acc.length < 1000 := by simp at h3; omega
    simp
    refine (draw_ok _ (h.app _) (by omega)).imp ?_
    rintro ⟨d, S1⟩ ⟨r, hr, r0, r1, d1, f1⟩
    simp only at hr d1 f1
    subst hr
    have r1 := r1 (by omega)
    have rr : rngOk r = true := by unfold rngOk; simp; omega
    have f0 : Fr dk l S' S1 := (Fr.app _).trans f1
    have a1 : S1[S'.length]? = some (.lst acc) := f1.get (by simp) (by omega) (by omega)
    have b1 : S1[S'.length + 1]? = some (.lst []) := f1.get (by simp) (by omega) (by omega)
    simp [rr]
    refine for_w (fun ds ρ S2 => (∃ x y z, ρ = [some (.loc dk), some (.int n), some (.int house), some (.int most), some (.loc S'.length), some (.loc (S'.length + 1)), x, y, z]) ∧ Deck S2 dk l ∧ Fr dk l S' S2 ∧ S2[S'.length]? = some (.lst acc) ∧ ∃ ps, S2[S'.length + 1]? = some (.lst ps) ∧ (∀ x ∈ ps, IsPair x) ∧ ps.length + ds.length ≤ 6)
      (fun _ _ => False) (fun _ _ => False) (fun _ _ _ _ => rfl) ?_ ?_ (fun _ _ h => h.elim) (fun _ _ h => h.elim) _ _ _ ?_
    · rintro d ds ρ S2 ⟨⟨x, y, z, rfl⟩, d2, f2, a2, ps, b2, hp, hl⟩
      rw [List.length_cons] at hl
      have l2 := f2.len
      simp
      refine (pick_ok d2 a2 h4 hA (by omega) (by omega)).imp ?_
      rintro ⟨c, S3⟩ ⟨hc, d3, f3⟩
      simp only at hc d3 f3
      obtain ⟨i, rfl, i0, i1⟩ := h2 c hc
      refine (pick_new d3 (by simp) (by simp)).imp ?_
      rintro ⟨w, S4⟩ ⟨hw, d4, f4⟩
      simp only at hw d4 f4
      have hw' : ∃ x, w = .str x ∧ x ∈ WordsAll := by
        simp at hw
        rcases hw with rfl | rfl | rfl | rfl | rfl | rfl <;> exact ⟨_, rfl, by decide +kernel⟩
      obtain ⟨w, rfl, hv⟩ := hw'
      have l3 := f3.len
      have f5 := f3.trans f4
      have a4 := f5.get a2 (by omega) (by omega)
      have b4 := f5.get b2 (by omega) (by omega)
      have pr : IsPair (.tup [.int i, .str w]) := ⟨i, w, rfl, i0, i1, hv⟩
      obtain ⟨b, hb⟩ := in_pairs pr b4 hp
      have hb' : notInD (.tup [.int i, .str w]) (.loc (S'.length + 1)) S4 = some (.bl (!b), S4) := by unfold notInD; rw [hb]; rfl
      simp [hb', lst_loc b4, app_loc (d := .tup [.int i, .str w]) b4 (by omega)]
      cases b with
      | true => exact .inl ⟨rfl, d4, f2.trans f5, a4, ps, b4, hp, by omega⟩
      | false =>
        refine .inr ⟨rfl, d4.setO (by omega) (by omega) _, (f2.trans f5).setNew (by omega) _, a4, ps ++ [.tup [.int i, .str w]], set_get_eq b4, fun x hx => ?_, by simp; omega⟩
        rcases List.mem_append.mp hx with q | q
        · exact hp x q
        · exact List.mem_singleton.mp q ▸ pr
    · rintro ρ S2 ⟨⟨x, y, z, rfl⟩, d2, f2, a2, ps, b2, hp, hl⟩
      simp
      exact ⟨ps, b2, hp, by simpa using hl, d2, f2⟩
    · refine ⟨⟨_, _, _, rfl⟩, d1, f0, a1, [], b1, by simp, ?_⟩
      rw [rngL_len]
      simp
      omega
  · refine ⟨rng_int hn', by simp, by rw [rngL_len]; simp; omega, .inr ?_, rfl⟩
    by_cases e : house = 0
    · exact ⟨.int 1, rng_mem (by omega) (by omega), fun q => by injection q; omega⟩
    · exact ⟨.int 0, rng_mem (by omega) (by omega), fun q => by injection q; omega⟩
end DD

/-! The books that a law draws: their shape. -/
namespace DD
open PySem L2
def SortsAll : List Str := ["open", "yes", "done", "off"]
def IsSort (d : D) : Prop := ∃ s, d = .str s ∧ s ∈ SortsAll
def IsRow (d : D) : Prop := ∃ a ps b qs c, d = .tup [.int a, .tup ps, .int b, .tup qs, .bl c] ∧ 0 ≤ a ∧ a < 100 ∧ 0 ≤ b ∧ b < 100 ∧ (∀ p ∈ ps, IsPair p) ∧ ps.length ≤ 6 ∧ (∀ p ∈ qs, IsPair p) ∧ qs.length ≤ 6
def IsBook (d : D) : Prop := ∃ ks rs, d = .tup [.tup ks, .tup rs] ∧ ks.length ≤ 9 ∧ (∀ k ∈ ks, IsSort k) ∧ rs.length ≤ 12 ∧ ∀ r ∈ rs, IsRow r
def IsAgr (d : D) : Prop := ∃ bs, d = .tup bs ∧ bs.length ≤ 4 ∧ ∀ b ∈ bs, IsBook b
theorem ints_of {P : Int → Prop} : ∀ {ds : List D}, (∀ d ∈ ds, ∃ i, d = .int i ∧ P i) → ∃ ws : List Int, ds = ws.map D.int ∧ ∀ w ∈ ws, P w
  | [], _ => ⟨[], rfl, by simp⟩
  | d :: ds, h => by
    obtain ⟨i, e, p⟩ := h d (by simp)
    obtain ⟨ws, e', q⟩ := ints_of (ds := ds) fun d hd => h d (List.mem_cons_of_mem _ hd)
    exact ⟨i :: ws, by rw [e, e']; rfl, fun w hw => (List.mem_cons.mp hw).elim (fun z => z ▸ p) (q w)⟩
theorem ne_nil {S : Sto} {q r : Nat} {ws : List Int} (h : S[q]? = some (.lst (ws.map D.int))) (h' : S[r]? = some (.lst [])) : neD (.loc q) (.loc r) S = some (.bl (!ws.isEmpty), S) := by
  unfold neD
  rw [eqB_ints h (vs := []) h', eqvAll_nil]
  rfl
theorem sort_loc {S : Sto} {q : Nat} {ps : List D} (h : S[q]? = some (.lst ps)) (hp : ∀ p ∈ ps, IsPair p) : sortD (.loc q) S = some (.loc S.length, S ++ [.lst (isort byS ps)]) := by
  unfold sortD
  rw [lst_loc h, Option.bind_some, if_pos]
  rw [List.all_eq_true]
  intro x hx
  obtain ⟨a, w, rfl, _⟩ := hp x hx
  rfl
theorem isort_len {α : Type} {lt : α → α → Bool} : ∀ {l : List α}, (isort lt l).length = l.length
  | [] => rfl
  | x :: l => by
    have : ∀ (x : α) (l : List α), (ins lt x l).length = l.length + 1 := fun x l => by
      induction l with
      | nil => rfl
      | cons y l ih =>
        unfold ins
        split
        · simp [ih]
        · simp
    unfold isort
    rw [this, isort_len, List.length_cons]
theorem pick_sort {S : Sto} {dk l : Nat} {xs : List D} (h : Deck S dk l) (hn : xs ≠ []) (hl : xs.length < 1000) (hx : ∀ x ∈ xs, IsSort x) :
    wO (F_pick [.loc dk, .loc S.length] (S ++ [.lst xs])) fun p => ∃ s, p.1 = .str s ∧ s ∈ SortsAll ∧ Deck p.2 dk l ∧ Fr dk l S p.2 :=
  (pick_new h hn hl).imp fun p hp => by
    obtain ⟨s, e, m⟩ := hx _ hp.1
    exact ⟨s, e, m, hp.2⟩
theorem book_ok {S : Sto} {dk l : Nat} {n house most : Int} (h : Deck S dk l) (hn : 2 ≤ n) (hn' : n ≤ 4) (hm0 : 1 ≤ most) (hm : most ≤ 8) :
    wO (F_book [.loc dk, .int n, .int house, .int most] S) fun p => IsBook p.1 ∧ Deck p.2 dk l ∧ Fr dk l S p.2 := by
  refine w_fn rfl ?_
  obtain ⟨ld, ll⟩ := h.lt
  have nat : sizeLine = 16777216 := by decide
  simp
  refine (draw_ok _ h (by omega)).imp ?_
  rintro ⟨d, S1⟩ ⟨m, hr, m0, m1, d1, f1⟩
  simp only at hr d1 f1
  subst hr
  have m1 := m1 hm0
  simp
  refine (pick_sort d1 (by simp) (by simp) (by intro x hx; simp at hx; rcases hx with rfl | rfl | rfl <;> exact ⟨_, rfl, by decide +kernel⟩)).imp ?_
  rintro ⟨s, S2⟩ ⟨k0, hs, k0m, d2, f2⟩
  simp only at hs d2 f2
  subst hs
  have rm : rngOk m = true := by unfold rngOk; simp; omega
  have e1 : 1 + m - 1 = m := by omega
  have l1 := f1.len
  have l2 := f2.len
  simp [e1, rm]
  refine for_w (fun ds ρ S3 => (∃ x y z u v w t, ρ = [some (.loc dk), some (.int n), some (.int house), some (.int most), some (.int (1 + m)), some (.loc S2.length), x, y, z, u, v, w, t]) ∧ Deck S3 dk l ∧ Fr dk l S S3 ∧ ∃ ks, S3[S2.length]? = some (.lst ks) ∧ (∀ x ∈ ks, IsSort x) ∧ ks.length + ds.length = 1 + m)
      (fun _ _ => False) (fun _ _ => False) (fun _ _ _ _ => rfl) ?_ ?_ (fun _ _ h => h.elim) (fun _ _ h => h.elim) _ _ _ ?_
  · rintro d ds ρ S3 ⟨⟨x, y, z, u, v, w, t, rfl⟩, d3, f3, ks, k3, hk, hl⟩
    rw [List.length_cons] at hl
    have l3 := lt_of_get k3
    simp [lst_loc k3]
    refine (pick_sort d3 (by simp) (by simp) (by intro x hx; simp at hx; rcases hx with rfl | rfl | rfl | rfl | rfl <;> exact ⟨_, rfl, by decide +kernel⟩)).imp ?_
    rintro ⟨s, S4⟩ ⟨k1, hs, k1m, d4, f4⟩
    simp only at hs d4 f4
    subst hs
    have k4 := f4.get k3 (by omega) (by omega)
    simp [app_loc (d := .str k1) k4 (by omega)]
    refine ⟨d4.setO (by omega) (by omega) _, (f3.trans f4).setNew (by omega) _, ks ++ [.str k1], set_get_eq k4, fun x hx => ?_, by simp; omega⟩
    rcases List.mem_append.mp hx with q | q
    · exact hk x q
    · exact ⟨k1, List.mem_singleton.mp q, k1m⟩
  · rintro ρ S3 ⟨⟨x, y, z, u, v, w, t, rfl⟩, d3, f3, ks, k3, hk, hl⟩
    have l3 := lt_of_get k3
    simp
    refine (draw_ok _ (d3.app _) (by omega)).imp ?_
    rintro ⟨d, S4⟩ ⟨r, hr, r0, r1, d4, f4⟩
    simp only at hr d4 f4
    subst hr
    have r1 := r1 (by omega)
    have rr : rngOk r = true := by unfold rngOk; simp; omega
    have k4 : S4[S2.length]? = some (.lst ks) := ((Fr.app _).trans f4).get k3 (by omega) (by omega)
    have b4 : S4[S3.length]? = some (.lst []) := f4.get (by simp) (by omega) (by omega)
    have f4 : Fr dk l S S4 := f3.trans ((Fr.app _).trans f4)
    simp [rr]
    refine for_w (fun ds ρ S5 => (∃ x y z u v w, ρ = [some (.loc dk), some (.int n), some (.int house), some (.int most), some (.int (1 + m)), some (.loc S2.length), x, some (.loc S3.length), y, z, u, v, w]) ∧ (∀ d ∈ ds, ∃ i, d = .int i) ∧ Deck S5 dk l ∧ Fr dk l S S5 ∧ S5[S2.length]? = some (.lst ks) ∧ ∃ rs, S5[S3.length]? = some (.lst rs) ∧ (∀ x ∈ rs, IsRow x) ∧ rs.length + ds.length ≤ 6)
      (fun _ _ => False) (fun _ _ => False) (fun _ _ _ _ => rfl) ?_ ?_ (fun _ _ h => h.elim) (fun _ _ h => h.elim) _ _ _ ?_
    · rintro d ds ρ S5 ⟨⟨x, y, z, u, v, w, rfl⟩, hd, d5, f5, k5, rs, b5, hp, hl5⟩
      rw [List.length_cons] at hl5
      obtain ⟨i, rfl⟩ := hd d (by simp)
      have hd' : ∀ d ∈ ds, ∃ i, d = D.int i := fun d h => hd d (by simp [h])
      refine wO_some.mpr ?_
      rw [w_seq, w_asg]
      refine wO.imp (Q := fun p => ∃ st, p.1 = .int st ∧ 0 ≤ st ∧ st < 1 + m ∧ Deck p.2 dk l ∧ Fr dk l S5 p.2) ?_ ?_
      · simp
        by_cases e : i < 2
        · exact .inr ⟨e, by omega, d5, Fr.refl _ _ _⟩
        · refine .inl ⟨by omega, (draw_ok _ d5 (by omega)).imp ?_⟩
          rintro ⟨d, S6⟩ ⟨st, hr, s0, s1, d6, f6⟩
          exact ⟨st, hr, s0, s1 (by omega), d6, f6⟩
      rintro ⟨d, S6⟩ ⟨st, hr, s0, s1, d6, f6⟩
      simp only at hr d6 f6
      subst hr
      have l5 := lt_of_get b5
      have k6 := f6.get k5 (by omega) (by omega)
      have b6 := f6.get b5 (by omega) (by omega)
      have rs1 : rngOk (st + 1) = true := by unfold rngOk; simp; omega
      have rs2 : rngOk (1 + m) = true := by unfold rngOk; simp; omega
      have kn : (ks.length : Int) = 1 + m := by simpa using hl
      have l6 := lt_of_get b6
      have ksort : ∀ j : Int, 0 ≤ j → j < 1 + m → ∃ s, atI ks j = some (.str s) := fun j h0 h1 => by
        obtain ⟨x, e, q⟩ := atI_lt h0 (by rw [kn]; exact h1)
        obtain ⟨s, e', _⟩ := hk x q
        exact ⟨s, by rw [e, e']⟩
      obtain ⟨sst, hsst⟩ := ksort st s0 s1
      simp [rs1, rs2, wipeE]
      refine comp_w (fun ds acc S7 => (∀ d ∈ ds, ∃ i, d = .int i ∧ 0 ≤ i ∧ i < 1 + m) ∧ (∀ d ∈ acc, ∃ i, d = .int i ∧ 0 ≤ i ∧ i < 1 + m) ∧ acc.length + ds.length ≤ 10 ∧ S7 = S6) (fun _ _ _ _ => rfl) ?_ ?_ _ _ _ ?_
      · rintro d' ds' acc S7 ⟨g1, g2, g3, rfl⟩
        obtain ⟨j, rfl, j0, j1⟩ := g1 d' (by simp)
        have g1' : ∀ d ∈ ds', ∃ i, d = D.int i ∧ 0 ≤ i ∧ i < 1 + m := fun d hd => g1 d (by simp [hd])
        rw [List.length_cons] at g3
        obtain ⟨sj, hsj⟩ := ksort j j0 j1
        simp [ix_loc k6, hsst, hsj]
        refine leads_ok.imp ?_
        rintro _ ⟨b, rfl⟩
        cases b
        · simp
          exact ⟨g1', g2, by omega⟩
        · simp
          refine ⟨by omega, g1', ?_, by omega⟩
          rintro d (q | q)
          · exact g2 d q
          · exact ⟨j, q, j0, j1⟩
      · rintro acc S7 ⟨_, g2, g3, rfl⟩
        simp at g3
        obtain ⟨ws, rfl, hws⟩ := ints_of g2
        have a1 : (S7 ++ [Cell.lst (ws.map D.int), Cell.lst []])[S7.length]? = some (.lst (ws.map D.int)) := by simp
        have a2 : (S7 ++ [Cell.lst (ws.map D.int), Cell.lst []])[S7.length + 1]? = some (.lst []) := by simp
        simp [ne_nil a1 a2]
        obtain ⟨ld7, ll7⟩ := d6.lt
        by_cases we : ws = []
        · refine .inl ⟨we, hd', d6.app _, (f5.trans f6).trans (Fr.app _), (Fr.app (dk := dk) (l := l) _).get k6 (by omega) (by omega), rs, (Fr.app (dk := dk) (l := l) _).get b6 (by omega) (by omega), hp, by omega⟩
        refine .inr ⟨we, ?_⟩
        refine (pick_ok (q := S7.length + 2) (d6.app _) (by simp; rfl) (by simp) (by simp) (by omega) (by omega)).imp ?_
        rintro ⟨c, S8⟩ ⟨hc, d8, f8⟩
        simp only at hc d8 f8
        have a8 : S8[S7.length]? = some (.lst (ws.map D.int)) := f8.get (by simp) (by omega) (by omega)
        have f8 : Fr dk l S7 S8 := (Fr.app _).trans f8
        obtain ⟨c, rfl, c0, c1⟩ : ∃ i, c = D.int i ∧ 0 ≤ i ∧ i ≤ 6 := by
          simp at hc
          rcases hc with rfl | rfl | rfl | rfl <;> exact ⟨_, rfl, by decide, by decide⟩
        refine (pairs_ok d8 hn hn' c0 c1).imp ?_
        rintro ⟨e, S9⟩ ⟨q9, p9, he, hq9, b9, hp9, hl9, d9, f9⟩
        simp only at he b9 d9 f9
        subst he
        have so := sort_loc b9 hp9
        simp [so, tup_loc (S := S9 ++ [Cell.lst (isort byS p9)]) (n := S9.length) (ds := isort byS p9) (by simp)]
        obtain ⟨ld9, ll9⟩ := d9.lt
        refine (pick_ok (q := S9.length + 1) (d9.app _) (by simp; rfl) (by simp) (by simp) (by omega) (by omega)).imp ?_
        rintro ⟨c, S10⟩ ⟨hc, d10, f10⟩
        simp only at hc d10 f10
        have f10 : Fr dk l S9 S10 := (Fr.app _).trans f10
        obtain ⟨c, rfl, c0, c1⟩ : ∃ i, c = D.int i ∧ 0 ≤ i ∧ i ≤ 6 := by
          simp at hc
          rcases hc with rfl | rfl | rfl | rfl | rfl <;> exact ⟨_, rfl, by decide, by decide⟩
        refine (pairs_ok d10 hn hn' c0 c1).imp ?_
        rintro ⟨e, S11⟩ ⟨q11, p11, he, hq11, b11, hp11, hl11, d11, f11⟩
        simp only at he b11 d11 f11
        subst he
        have f711 : Fr dk l S7 S11 := f8.trans (f9.trans (f10.trans f11))
        have a11 : S11[S7.length]? = some (.lst (ws.map D.int)) := (f9.trans (f10.trans f11)).get a8 (by omega) (by omega)
        have b12 := f711.get b6 (by omega) (by omega)
        simp [tup_loc b11, lst_loc b12]
        refine (pick_ok d11 a11 (by simpa using we) (by simp at g3 ⊢; omega) (by omega) (by omega)).imp ?_
        rintro ⟨c, S13⟩ ⟨hc, d13, f13⟩
        simp only at hc d13 f13
        obtain ⟨on, rfl, on0, on1⟩ := g2 c hc
        refine (draw_ok _ d13 (by omega)).imp ?_
        rintro ⟨c, S14⟩ ⟨lt, hr, _, _, d14, f14⟩
        simp only at hr d14 f14
        subst hr
        have f714 : Fr dk l S7 S14 := f711.trans (f13.trans f14)
        have b14 := f714.get b6 (by omega) (by omega)
        have k14 := f714.get k6 (by omega) (by omega)
        simp [app_loc b14 (show rs.length < sizeLine by omega)]
        refine ⟨hd', d14.setO (by omega) (by omega) _, (f5.trans (f6.trans f714)).setNew (by omega) _, (set_get_ne (by omega)).trans k14, _, set_get_eq b14, fun x hx => ?_, by simp; omega⟩
        rcases List.mem_append.mp hx with q | q
        · exact hp x q
        · refine ⟨st, isort byS p9, on, p11, decide (lt = 0), List.mem_singleton.mp q, s0, by omega, on0, by omega, fun p h => hp9 p (isort_mem.mp h), by rw [isort_len]; exact hl9, hp11, hl11⟩
      · refine ⟨fun d hd => ?_, by simp, ?_, rfl⟩
        · obtain ⟨i, e, h1, h2⟩ := rngL_int _ _ hd
          exact ⟨i, e, by omega, by omega⟩
        · rw [rngL_len]; simp; omega
    · rintro ρ S5 ⟨⟨x, y, z, u, v, w, rfl⟩, hd, d5, f5, k5, rs, b5, hp, hl5⟩
      simp [tup_loc k5, tup_loc b5]
      refine ⟨⟨ks, rs, rfl, ?_, hk, ?_, hp⟩, d5, f5⟩
      · simp at hl; omega
      · simp at hl5; omega
    · refine ⟨⟨_, _, _, _, _, _, rfl⟩, fun d hd => ?_, d4, f4, k4, [], b4, by simp, ?_⟩
      · obtain ⟨i, e, _⟩ := rngL_int _ _ hd
        exact ⟨i, e⟩
      · rw [rngL_len]; simp; omega
  · refine ⟨⟨_, _, _, _, _, _, _, rfl⟩, d2.app _, (f1.trans f2).trans (Fr.app _), [.str k0], by simp, ?_, ?_⟩
    · intro x hx; exact ⟨k0, List.mem_singleton.mp hx, k0m⟩
    · rw [rngL_len]; simp; omega
theorem seqI_loc {S : Sto} {n : Nat} {ds : List D} (h : S[n]? = some (.lst ds)) : seqI (.loc n) S = some (ds, (fun S' => match S'[n]? with | some (.lst es) => decide (es = ds) | _ => false), S) := by
  simp only [seqI, h] <;> rfl
theorem comp_map {gm : Gm} {chk : Sto → Bool} {el : Ex} {ρ : Env} {S : Sto} (f : D → D) (hc : chk S = true) : ∀ (ds acc : List D), (∀ d ∈ ds, ∃ ρ1, gm d ρ = some ρ1 ∧ el ρ1 S = some (f d, S)) → acc.length + ds.length ≤ sizeLine → compL gm chk mYes el ρ ds acc S = some (acc ++ ds.map f, S)
  | [], acc, _, _ => by
    unfold compL
    rw [if_pos hc]
    simp
  | d :: ds, acc, h, hl => by
    obtain ⟨ρ1, h1, h2⟩ := h d (by simp)
    rw [List.length_cons] at hl
    unfold compL
    rw [if_pos hc, h1, Option.bind_some]
    show (some (true, S)).bind _ = _
    rw [Option.bind_some, if_pos rfl, h2, Option.bind_some]
    have : acc.length < sizeLine := by omega
    simp only [this, if_true]
    rw [comp_map f hc ds (acc ++ [f d]) (fun d hd => h d (by simp [hd])) (by simp; omega)]
    simp
theorem asking_ok {S : Sto} {dk l : Nat} {n : Int} {last : Str} (h : Deck S dk l) (hn : 2 ≤ n) (hn' : n ≤ 4) (hw : last ∈ WordsAll) :
    wO (F_asking [.loc dk, .int n, .str last] S) fun p => IsAgr p.1 ∧ Deck p.2 dk l ∧ Fr dk l S p.2 := by
  refine w_fn rfl ?_
  obtain ⟨ld, ll⟩ := h.lt
  have nat : sizeLine = 16777216 := by decide
  have r1 : rngOk n = true := by unfold rngOk; simp; omega
  have r2 : rngOk 1 = true := by decide
  have r3 : n - 1 ≤ 16777216 := by omega
  simp [r1, r2, r3]
  have ho : ∀ d ∈ rngL 1 (n.toNat - 1), ∃ i, d = .int i ∧ 0 ≤ i ∧ i < 100 := fun d hd => by
    obtain ⟨i, e, h1, h2⟩ := rngL_int _ _ hd
    exact ⟨i, e, by omega, by omega⟩
  have hol : (rngL 1 (n.toNat - 1)).length ≤ 3 := by rw [rngL_len]; omega
  generalize rngL 1 (n.toNat - 1) = oth at ho hol ⊢
  have hS : (S ++ [Cell.lst oth])[S.length]? = some (.lst oth) := by simp
  have pr : ∀ w ∈ WordsAll, ∀ x ∈ oth.map (fun d => D.tup [d, .str w]), IsPair x := fun w hw x hx => by
    obtain ⟨d, hd, rfl⟩ := List.mem_map.mp hx
    obtain ⟨i, rfl, h0, h1⟩ := ho d hd
    exact ⟨i, w, rfl, h0, h1, hw⟩
  have prl : ∀ w : Str, (oth.map (fun d => D.tup [d, .str w])).length ≤ 6 := fun w => by rw [List.length_map]; omega
  have d0 : Deck (S ++ [Cell.lst oth]) dk l := h.app _
  have f0 : Fr dk l S (S ++ [Cell.lst oth]) := Fr.app _
  have ge : S.length + 1 ≤ (S ++ [Cell.lst oth]).length := by simp
  generalize S ++ [Cell.lst oth] = S0 at *
  simp [seqI_loc hS]
  refine wO.eq (comp_map (fun d => .tup [d, .str "ok"]) (by simp [hS]) oth [] (fun d hd => ⟨_, rfl, rfl⟩) (by simp; omega)) ?_
  have q1 : (S0 ++ [Cell.lst (oth.map fun d => D.tup [d, .str "ok"])])[S0.length]? = some (.lst (oth.map fun d => D.tup [d, .str "ok"])) := by simp
  simp [tup_loc q1]
  have hS1 : (S0 ++ [Cell.lst (oth.map fun d => D.tup [d, .str "ok"])])[S.length]? = some (.lst oth) := (Fr.app (dk := dk) (l := l) _).get hS (by omega) (by omega)
  have d1 := d0.app [Cell.lst (oth.map fun d => D.tup [d, .str "ok"])]
  have f1 : Fr dk l S (S0 ++ [Cell.lst (oth.map fun d => D.tup [d, .str "ok"])]) := f0.trans (Fr.app _)
  generalize S0 ++ [Cell.lst (oth.map fun d => D.tup [d, .str "ok"])] = S1 at *
  simp [seqI_loc hS1]
  refine wO.eq (comp_map (fun d => .tup [d, .str last]) (by simp [hS1]) oth [] (fun d hd => ⟨_, rfl, rfl⟩) (by simp; omega)) ?_
  have q2 : (S1 ++ [Cell.lst (oth.map fun d => D.tup [d, .str last])])[S1.length]? = some (.lst (oth.map fun d => D.tup [d, .str last])) := by simp
  simp [tup_loc q2]
  have hS2 : (S1 ++ [Cell.lst (oth.map fun d => D.tup [d, .str last])])[S.length]? = some (.lst oth) := (Fr.app (dk := dk) (l := l) _).get hS1 (by omega) (by omega)
  have d2 := d1.app [Cell.lst (oth.map fun d => D.tup [d, .str last])]
  have f2 : Fr dk l S (S1 ++ [Cell.lst (oth.map fun d => D.tup [d, .str last])]) := f1.trans (Fr.app _)
  generalize S1 ++ [Cell.lst (oth.map fun d => D.tup [d, .str last])] = S2 at *
  simp [seqI_loc hS2]
  refine wO.eq (comp_map (fun d => .tup [d, .str "ask"]) (by simp [hS2]) oth [] (fun d hd => ⟨_, rfl, rfl⟩) (by simp; omega)) ?_
  have q3 : (S2 ++ [Cell.lst (oth.map fun d => D.tup [d, .str "ask"])])[S2.length]? = some (.lst (oth.map fun d => D.tup [d, .str "ask"])) := by simp
  simp [tup_loc q3]
  have hS3 : (S2 ++ [Cell.lst (oth.map fun d => D.tup [d, .str "ask"])])[S.length]? = some (.lst oth) := (Fr.app (dk := dk) (l := l) _).get hS2 (by omega) (by omega)
  have d3 := d2.app [Cell.lst (oth.map fun d => D.tup [d, .str "ask"])]
  have f3 : Fr dk l S (S2 ++ [Cell.lst (oth.map fun d => D.tup [d, .str "ask"])]) := f2.trans (Fr.app _)
  generalize S2 ++ [Cell.lst (oth.map fun d => D.tup [d, .str "ask"])] = S3 at *
  refine (draw_ok _ d3 (by omega)).imp ?_
  rintro ⟨c, S4⟩ ⟨v1, hr, _, _, d4, f4⟩
  simp only at hr d4 f4
  subst hr
  have hS4 := f4.get hS3 (by omega) (by omega)
  have f4 := f3.trans f4
  have l4 := f4.len
  simp
  generalize hrow : D.tup [.int 0, .tup [], .int 1, .tup (oth.map fun d => D.tup [d, .str "ask"]), .bl (decide (v1 = 0))] = row1
  have hr1 : IsRow row1 := ⟨0, [], 1, _, _, hrow.symm, by decide, by decide, by decide, by decide, by simp, by simp, pr _ (by decide +kernel), prl _⟩
  have hl5 := lt_of_get hS4
  have a4 : (S4 ++ [Cell.lst [row1]])[S4.length]? = some (.lst [row1]) := by simp
  simp [lst_loc a4]
  refine (draw_ok _ (d4.app _) (by omega)).imp ?_
  rintro ⟨c, S5⟩ ⟨v2, hr, _, _, d5, f5⟩
  simp only at hr d5 f5
  subst hr
  have a5 := f5.get a4 (by omega) (by omega)
  have hS5 := f5.get ((Fr.app (dk := dk) (l := l) _).get hS4 (by omega) (by omega)) (by omega) (by omega)
  have f5 : Fr dk l S S5 := f4.trans ((Fr.app _).trans f5)
  simp
  generalize hrow : D.tup [.int 1, .tup (oth.map fun d => D.tup [d, .str "ok"]), .int 2, .tup (oth.map fun d => D.tup [d, .str last]), .bl (decide (v2 = 0))] = row2
  have hr2 : IsRow row2 := ⟨1, _, 2, _, _, hrow.symm, by decide, by decide, by decide, by decide, pr _ (by decide +kernel), prl _, pr _ hw, prl _⟩
  simp [app_loc (d := row2) a5 (by simp [nat])]
  have a6 : (S5.set S4.length (Cell.lst [row1, row2]))[S4.length]? = some (.lst [row1, row2]) := set_get_eq a5
  have hS6 : (S5.set S4.length (Cell.lst [row1, row2]))[S.length]? = some (.lst oth) := (set_get_ne (by omega)).trans hS5
  have d6 : Deck (S5.set S4.length (Cell.lst [row1, row2])) dk l := d5.setO (by omega) (by omega) _
  have f6 : Fr dk l S (S5.set S4.length (Cell.lst [row1, row2])) := f5.setNew (by omega) _
  generalize S5.set S4.length (Cell.lst [row1, row2]) = S6 at *
  simp [seqI_loc hS6]
  refine wO.eq (comp_map (fun d => .tup [.int 1, .tup [.tup [d, .str "no"]], .int 3, .tup [], .bl false]) (by simp [hS6]) oth [] (fun d hd => ⟨_, rfl, rfl⟩) (by simp; omega)) ?_
  simp
  have hra : ∀ r ∈ oth.map (fun d => D.tup [.int 1, .tup [.tup [d, .str "no"]], .int 3, .tup [], .bl false]), IsRow r := fun r hr => by
    obtain ⟨d, hd, rfl⟩ := List.mem_map.mp hr
    obtain ⟨i, rfl, h0, h1⟩ := ho d hd
    refine ⟨1, _, 3, _, _, rfl, by decide, by decide, by decide, by decide, fun p hp => ?_, by simp, by simp, by simp⟩
    exact ⟨i, "no", List.mem_singleton.mp hp, h0, h1, by decide +kernel⟩
  have hral : (oth.map (fun d => D.tup [.int 1, .tup [.tup [d, .str "no"]], .int 3, .tup [], .bl false])).length ≤ 3 := by rw [List.length_map]; exact hol
  generalize oth.map (fun d => D.tup [.int 1, .tup [.tup [d, .str "no"]], .int 3, .tup [], .bl false]) = rws at *
  have l6 := lt_of_get a6
  have l6' := lt_of_get hS6
  have q6 : (S6 ++ [Cell.lst rws])[S6.length]? = some (.lst rws) := by simp
  have a7 : (S6 ++ [Cell.lst rws])[S4.length]? = some (.lst [row1, row2]) := (Fr.app (dk := dk) (l := l) _).get a6 (by omega) (by omega)
  have a8 : (S6 ++ [Cell.lst rws, Cell.lst (row1 :: row2 :: rws)])[S6.length + 1]? = some (.lst (row1 :: row2 :: rws)) := by simp
  simp [add_loc a7 q6 (by simp; omega), tup_loc a8]
  have sorts : ∀ x ∈ [D.str "open", .str "yes", .str "done", .str "off"], IsSort x := by
    intro x hx
    simp at hx
    rcases hx with rfl | rfl | rfl | rfl <;> exact ⟨_, rfl, by decide +kernel⟩
  generalize hfour : [D.str "open", D.str "yes", D.str "done", D.str "off"] = four at *
  have four4 : four.length = 4 := by rw [← hfour]; rfl
  have bk1 : IsBook (.tup [.tup four, .tup (row1 :: row2 :: rws)]) := by
    refine ⟨_, _, rfl, by omega, sorts, by simp; omega, ?_⟩
    intro r hr
    rcases List.mem_cons.mp hr with q | hr
    · exact q ▸ hr1
    rcases List.mem_cons.mp hr with q | hr
    · exact q ▸ hr2
    · exact hra r hr
  generalize D.tup [.tup four, .tup (row1 :: row2 :: rws)] = book1 at *
  have hS8 : (S6 ++ [Cell.lst rws, Cell.lst (row1 :: row2 :: rws), Cell.lst [book1]])[S.length]? = some (.lst oth) := (Fr.app (dk := dk) (l := l) _).get hS6 (by omega) (by omega)
  have b8 : (S6 ++ [Cell.lst rws, Cell.lst (row1 :: row2 :: rws), Cell.lst [book1]])[S6.length + 2]? = some (.lst [book1]) := by simp
  have d8 := d6.app [Cell.lst rws, Cell.lst (row1 :: row2 :: rws), Cell.lst [book1]]
  have f8 : Fr dk l S (S6 ++ [Cell.lst rws, Cell.lst (row1 :: row2 :: rws), Cell.lst [book1]]) := f6.trans (Fr.app _)
  have gB : S.length < S6.length + 2 := by omega
  have gdB : dk ≠ S6.length + 2 ∧ l ≠ S6.length + 2 := by omega
  generalize S6.length + 2 = B at *
  generalize S6.length + 1 = R at *
  generalize S6 ++ [Cell.lst rws, Cell.lst (row1 :: row2 :: rws), Cell.lst [book1]] = S8 at *
  simp [seqI_loc hS8]
  refine for_w (fun ds ρ S9 => (∃ p1 p2 x y, ρ = [some (.loc dk), some (.int n), some (.str last), some (.tup four), some (.loc S.length), p1, p2, some (.loc R), some (.loc B), x, y]) ∧ Deck S9 dk l ∧ Fr dk l S S9 ∧ S9[S.length]? = some (.lst oth) ∧ ∃ bs, S9[B]? = some (.lst bs) ∧ (∀ b ∈ bs, IsBook b) ∧ bs.length + ds.length ≤ 4)
      (fun _ _ => False) (fun _ _ => False) ?_ ?_ ?_ (fun _ _ h => h.elim) (fun _ _ h => h.elim) _ _ _ ?_
  · rintro ds ρ S9 ⟨_, _, _, h9, _⟩
    simp [h9]
  · rintro d ds ρ S9 ⟨⟨p1, p2, x, y, rfl⟩, d9, f9, h9, bs, b9, hb, hl9⟩
    rw [List.length_cons] at hl9
    have l9 := lt_of_get b9
    simp
    refine (draw_ok _ d9 (by omega)).imp ?_
    rintro ⟨c, T1⟩ ⟨v1, hr, _, _, e1, g1⟩
    simp only at hr e1 g1
    subst hr
    simp
    generalize hrow : D.tup [.int 0, .tup [.tup [.int 0, .str "ask"]], .int 1, .tup [.tup [.int 0, .str "ok"]], .bl (decide (v1 = 0))] = u1
    have hu1 : IsRow u1 := by
      refine ⟨0, _, 1, _, _, hrow.symm, by decide, by decide, by decide, by decide, ?_, by simp, ?_, by simp⟩ <;> intro p hp <;> exact ⟨_, _, List.mem_singleton.mp hp, by decide, by decide, by decide +kernel⟩
    have b1 := g1.get b9 (by omega) (by omega)
    have h1 := g1.get h9 (by omega) (by omega)
    have lb1 := lt_of_get b1
    have n1 : (T1 ++ [Cell.lst [u1]])[T1.length]? = some (.lst [u1]) := by simp
    simp [lst_loc n1]
    refine (draw_ok _ (e1.app _) (by omega)).imp ?_
    rintro ⟨c, T2⟩ ⟨v2, hr, _, _, e2, g2⟩
    simp only at hr e2 g2
    subst hr
    have n2 := g2.get n1 (by have := e1.lt; omega) (by have := e1.lt; omega)
    have g2 : Fr dk l T1 T2 := (Fr.app _).trans g2
    have ln2 := lt_of_get n2
    simp
    generalize hrow : D.tup [.int 0, .tup [.tup [.int 0, .str "ask"]], .int 3, .tup [.tup [.int 0, .str "no"]], .bl (decide (v2 = 0))] = u2
    have hu2 : IsRow u2 := by
      refine ⟨0, _, 3, _, _, hrow.symm, by decide, by decide, by decide, by decide, ?_, by simp, ?_, by simp⟩ <;> intro p hp <;> exact ⟨_, _, List.mem_singleton.mp hp, by decide, by decide, by decide +kernel⟩
    have b2 := g2.get b1 (by omega) (by omega)
    have h2 := g2.get h1 (by omega) (by omega)
    have lt1 := e1.lt
    have lt2 := e2.lt
    have b3 : (T2.set T1.length (Cell.lst [u1, u2]))[B]? = some (.lst bs) := (set_get_ne (by omega)).trans b2
    have n3 : (T2.set T1.length (Cell.lst [u1, u2]))[T1.length]? = some (.lst [u1, u2]) := set_get_eq n2
    have h3 : (T2.set T1.length (Cell.lst [u1, u2]))[S.length]? = some (.lst oth) := (set_get_ne (by omega)).trans h2
    have e3 : Deck (T2.set T1.length (Cell.lst [u1, u2])) dk l := e2.setO (by omega) (by omega) _
    have gl : S.length ≤ T1.length := Nat.le_trans f9.len g1.len
    have g3 : Fr dk l S (T2.set T1.length (Cell.lst [u1, u2])) := (f9.trans (g1.trans g2)).setNew gl _
    simp [app_loc (d := u2) n2 (by simp [nat])]
    generalize T2.set T1.length (Cell.lst [u1, u2]) = T3 at *
    simp [lst_loc b3]
    refine (draw_ok _ e3 (by omega)).imp ?_
    rintro ⟨c, T4⟩ ⟨v3, hr, _, _, e4, g4⟩
    simp only at hr e4 g4
    subst hr
    simp
    generalize hrow : D.tup [.int 1, .tup [.tup [.int 0, .str last]], .int 2, .tup [], .bl (decide (v3 = 0))] = u3
    have hu3 : IsRow u3 := by
      refine ⟨1, _, 2, [], _, hrow.symm, by decide, by decide, by decide, by decide, ?_, by simp, by simp, by simp⟩
      intro p hp; exact ⟨_, _, List.mem_singleton.mp hp, by decide, by decide, hw⟩
    have ln3 := lt_of_get n3
    have n4 := g4.get n3 (by omega) (by omega)
    have b4 := g4.get b3 (by omega) (by omega)
    have h4 := g4.get h3 (by omega) (by omega)
    have ln4 := lt_of_get n4
    have n5 : (T4 ++ [Cell.lst [u3]])[T1.length]? = some (.lst [u1, u2]) := (Fr.app (dk := dk) (l := l) _).get n4 (by omega) (by omega)
    have n6 : (T4 ++ [Cell.lst [u3]])[T4.length]? = some (.lst [u3]) := by simp
    have n7 : (T4 ++ [Cell.lst [u3], Cell.lst [u1, u2, u3]])[T4.length + 1]? = some (.lst [u1, u2, u3]) := by simp
    have b7 : (T4 ++ [Cell.lst [u3], Cell.lst [u1, u2, u3]])[B]? = some (.lst bs) := (Fr.app (dk := dk) (l := l) _).get b4 (by omega) (by omega)
    have h7 : (T4 ++ [Cell.lst [u3], Cell.lst [u1, u2, u3]])[S.length]? = some (.lst oth) := (Fr.app (dk := dk) (l := l) _).get h4 (by omega) (by omega)
    simp [add_loc n5 n6 (by simp [nat]), tup_loc n7, app_loc (d := .tup [.tup four, .tup [u1, u2, u3]]) b7 (by omega)]
    have bkn : IsBook (.tup [.tup four, .tup [u1, u2, u3]]) := by
      refine ⟨_, _, rfl, by omega, sorts, by simp, ?_⟩
      intro r hr
      simp at hr
      rcases hr with rfl | rfl | rfl
      · exact hu1
      · exact hu2
      · exact hu3
    have lb7 := lt_of_get b4
    refine ⟨(e4.app _).setO (by omega) (by omega) _, (g3.trans (g4.trans (Fr.app _))).setNew (by omega) _, (set_get_ne (by omega)).trans h7, _, set_get_eq b7, fun b q => ?_, by simp; omega⟩
    rcases List.mem_append.mp q with q | q
    · exact hb b q
    · exact List.mem_singleton.mp q ▸ bkn
  · rintro ρ S9 ⟨⟨p1, p2, x, y, rfl⟩, d9, f9, h9, bs, b9, hb, hl9⟩
    simp [tup_loc b9]
    exact ⟨⟨bs, rfl, by simpa using hl9, hb⟩, d9, f9⟩
  · exact ⟨⟨_, _, _, _, rfl⟩, d8, f8, hS8, [book1], b8, by simpa using bk1, by simp; omega⟩
end DD

/-! The agreements that a law draws; what is shown of them. -/
namespace DD
open PySem L2
theorem agreement_ok {S : Sto} {dk l : Nat} (h : Deck S dk l) :
    wO (F_agreement [.loc dk] S) fun p => IsAgr p.1 ∧ Deck p.2 dk l ∧ Fr dk l S p.2 := by
  refine w_fn rfl ?_
  obtain ⟨ld, ll⟩ := h.lt
  have nat : sizeLine = 16777216 := by decide
  simp
  refine (pick_new h (by simp) (by simp)).imp ?_
  rintro ⟨c, S1⟩ ⟨hc, d1, f1⟩
  simp only at hc d1 f1
  obtain ⟨n, rfl, n0, n1⟩ : ∃ i, c = D.int i ∧ 2 ≤ i ∧ i ≤ 4 := by
    simp at hc
    rcases hc with rfl | rfl | rfl | rfl | rfl <;> exact ⟨_, rfl, by decide, by decide⟩
  refine (draw_ok _ d1 (by omega)).imp ?_
  rintro ⟨c, S2⟩ ⟨v, hr, _, _, d2, f2⟩
  simp only at hr d2 f2
  subst hr
  have rn : rngOk n = true := by unfold rngOk; simp; omega
  have f2 := f1.trans f2
  simp [rn]
  by_cases v0 : v = 0
  · refine .inr ⟨v0, (pick_new d2 (by simp) (by simp)).imp ?_⟩
    rintro ⟨c, S3⟩ ⟨hc, d3, f3⟩
    simp only at hc d3 f3
    obtain ⟨w, rfl, hw⟩ : ∃ i, c = D.str i ∧ i ∈ WordsAll := by
      simp at hc
      rcases hc with rfl | rfl | rfl <;> exact ⟨_, rfl, by decide +kernel⟩
    refine (asking_ok d3 n0 n1 hw).imp ?_
    rintro ⟨c, S4⟩ ⟨ha, d4, f4⟩
    exact ⟨ha, d4, f2.trans (f3.trans f4)⟩
  · refine .inl ⟨v0, ?_⟩
    refine comp_w (fun ds acc S3 => (∀ d ∈ ds, ∃ i, d = .int i) ∧ (∀ b ∈ acc, IsBook b) ∧ acc.length + ds.length ≤ 4 ∧ Deck S3 dk l ∧ Fr dk l S S3) (fun _ _ _ _ => rfl) ?_ ?_ _ _ _ ?_
    · rintro d ds acc S3 ⟨hd, hb, hl, d3, f3⟩
      rw [List.length_cons] at hl
      obtain ⟨i, rfl⟩ := hd d (by simp)
      simp [wipeE]
      refine (pick_new d3 (by simp) (by simp)).imp ?_
      rintro ⟨c, S4⟩ ⟨hc, d4, f4⟩
      simp only at hc d4 f4
      obtain ⟨m, rfl, m0, m1⟩ : ∃ i, c = D.int i ∧ 1 ≤ i ∧ i ≤ 8 := by
        simp at hc
        rcases hc with rfl | rfl | rfl | rfl <;> exact ⟨_, rfl, by decide, by decide⟩
      refine (book_ok d4 n0 n1 m0 m1).imp ?_
      rintro ⟨c, S5⟩ ⟨hc, d5, f5⟩
      simp only at hc d5 f5
      refine ⟨by omega, fun d h => hd d (by simp [h]), ?_, by omega, d5, f3.trans (f4.trans f5)⟩
      rintro b (q | q)
      · exact hb b q
      · exact q ▸ hc
    · rintro acc S3 ⟨_, hb, hl, d3, f3⟩
      have q : (S3 ++ [Cell.lst acc])[S3.length]? = some (.lst acc) := by simp
      simp [tup_loc q]
      exact ⟨⟨acc, rfl, by simpa using hl, hb⟩, d3.app _, f3.trans (Fr.app _)⟩
    · refine ⟨fun d hd => ?_, by simp, ?_, d2, f2⟩
      · obtain ⟨i, e, _⟩ := rngL_int _ _ hd
        exact ⟨i, e⟩
      · rw [rngL_len]; simp; omega
theorem dat_sort {k : Nat} {d : D} (h : IsSort d) : Dat k 4 d := by
  obtain ⟨s, rfl, h⟩ := h
  unfold SortsAll at h
  simp only [List.mem_cons, List.not_mem_nil, or_false] at h
  rcases h with rfl | rfl | rfl | rfl <;> exact dat_str (by decide +kernel) (by decide +kernel) (by decide +kernel)
theorem dat_row {d : D} (h : IsRow d) : Dat 3 300 d := by
  obtain ⟨a, ps, b, qs, c, rfl, a0, a1, b0, b1, hp, hpl, hq, hql⟩ := h
  exact (DatL.cons (dat_int (by omega)) (DatL.cons (DatL.most (fun p h => dat_pair (hp p h)) hpl).tup (DatL.cons (dat_int (by omega)) (DatL.cons (DatL.most (fun p h => dat_pair (hq p h)) hql).tup (DatL.cons dat_bl DatL.nil))))).tup.up (by omega) (by omega)
theorem dat_book {d : D} (h : IsBook d) : Dat 5 4000 d := by
  obtain ⟨ks, rs, rfl, hk, hks, hr, hrs⟩ := h
  have a : Dat 4 45 (.tup ks) := (DatL.most (k := 3) (fun p h => dat_sort (hks p h)) hk).tup
  have b : Dat 4 3612 (.tup rs) := (DatL.most (fun p h => dat_row (hrs p h)) hr).tup
  exact (DatL.cons a (DatL.cons b DatL.nil)).tup.up (by omega) (by omega)
theorem dat_agr {d : D} (h : IsAgr d) : Dat 6 20000 d := by
  obtain ⟨bs, rfl, hl, hb⟩ := h
  exact (DatL.most (fun p h => dat_book (hb p h)) hl).tup.up (by omega) (by omega)
end DD

namespace K04
open PySem PySem.Spec PyProof.Rows L2 DD
def top (i : Nat) : Stmt := PySem.Challenge.pw_leftstanding_k04_kinds_and_late_rows.main.body.getD i (.Pass ⟨0, 0, 0, 0⟩)
abbrev s_kind : Stmt := top 1
abbrev s_with_late : Stmt := top 2
abbrev s__law_deck : Stmt := top 4
abbrev s__law_draw : Stmt := top 5
abbrev s__law_pick : Stmt := top 6
abbrev s__law_leads : Stmt := top 7
abbrev s__law_pairs : Stmt := top 8
abbrev s__law_book : Stmt := top 9
abbrev s__law_asking : Stmt := top 10
abbrev s__law_agreement : Stmt := top 11
abbrev s__law_turned : Stmt := top 12
abbrev s__law_are_kinds : Stmt := top 13
abbrev s__law_are_late : Stmt := top 14
abbrev s_law : Stmt := top 15
/-- the built-ins that are called by their names -/
structure Bt (mg : Str → Option Value) : Prop where
  h_abs : mg "abs" = none
  h_enumerate : mg "enumerate" = none
  h_int : mg "int" = none
  h_len : mg "len" = none
  h_list : mg "list" = none
  h_range : mg "range" = none
  h_repr : mg "repr" = none
  h_sorted : mg "sorted" = none
  h_tuple : mg "tuple" = none
/-! ### kind -/
def m_kind : Fn := mkFn 3 3 (mRet (m2 ixD (m2 ixD (m2 ixD (mV 0) (mV 1)) (mC (.int 0))) (mV 2)))
theorem sc_kind : FnScope ["agreement", "house", "state"] ["agreement", "house", "state"] (defScope s_kind) := ⟨rfl, rfl, rfl, by decide +kernel, rfl, by decide +kernel, by decide +kernel⟩
theorem ok_kind {P : Program} {w : World} {K : PySem.W.Frag} {mg : Str → Option Value} {base : Heap} (B : Bt mg) {f : Addr} {fd : FuncData} (F : Fun K "kind" "kind" s_kind f fd) : FnG P w K mg base 1 f fd ["agreement", "house", "state"] m_kind :=
  fn_g F sc_kind rfl rfl fun cdv A outer s H hr => by
    have nd := sc_kind.nd
    exact (dss_one (ds_ret (de_ix hr (de_ix hr (de_ix hr (de_v 0) (de_v 1)) (de_int)) (de_v 2))))
/-! ### with_late -/
def m_with_late : Fn := mkFn 4 8 (mSeq (mAsg (m2 ixD (mV 0) (mV 1)) (gT (gsCons (gN 4) (gsCons (gN 5) gsNil))))
  (mSeq (mAsg (m2 addD (mSl (m2 ixD (mV 5) (mV 2)) mNoP (mP (mC (.int 4)))) (mTup (mCons (mV 3) mNil))) (gN 6))
  (mSeq (mAsg (mTup (mCons (mV 4) (mCons (m2 addD (m2 addD (mSl (mV 5) mNoP (mP (mV 2))) (mTup (mCons (mV 6) mNil))) (mSl (mV 5) (mP (m2 addD (mV 2) (mC (.int 1)))) mNoP)) mNil))) (gN 7))
  (mRet (m2 addD (m2 addD (mSl (mV 0) mNoP (mP (mV 1))) (mTup (mCons (mV 7) mNil))) (mSl (mV 0) (mP (m2 addD (mV 1) (mC (.int 1)))) mNoP))))))
theorem sc_with_late : FnScope ["agreement", "house", "k", "late", "kinds", "rows", "row", "book"] ["agreement", "house", "k", "late"] (defScope s_with_late) := ⟨rfl, rfl, rfl, by decide +kernel, rfl, by decide +kernel, by decide +kernel⟩
theorem ok_with_late {P : Program} {w : World} {K : PySem.W.Frag} {mg : Str → Option Value} {base : Heap} (B : Bt mg) {f : Addr} {fd : FuncData} (F : Fun K "with_late" "with_late" s_with_late f fd) : FnG P w K mg base 1 f fd ["agreement", "house", "k", "late"] m_with_late :=
  fn_g F sc_with_late rfl rfl fun cdv A outer s H hr => by
    have nd := sc_with_late.nd
    exact (dss_cons (ds_asg [4, 5] (de_ix hr (de_v 0) (de_v 1)) (dg_tup hr.calm (dgs_cons (dg_name [4, 5] 4 nd rfl (by first | exact Or.inl rfl | exact Or.inr rfl) (by decide)) (dgs_cons (dg_name [4, 5] 5 nd rfl (by first | exact Or.inl rfl | exact Or.inr rfl) (by decide)) (dgs_nil [4, 5])))))
    (dss_cons (ds_set 6 nd rfl (by first | exact Or.inl rfl | exact Or.inr rfl) (de_add (de_sl (de_ix hr (de_v 5) (de_v 2)) dp_none (dp_some (de_int))) (de_tup (da_cons (de_v 3) da_nil))))
    (dss_cons (ds_set 7 nd rfl (by first | exact Or.inl rfl | exact Or.inr rfl) (de_tup (da_cons (de_v 4) (da_cons (de_add (de_add (de_sl (de_v 5) dp_none (dp_some (de_v 2))) (de_tup (da_cons (de_v 6) da_nil))) (de_sl (de_v 5) (dp_some (de_add (de_v 2) (de_int))) dp_none)) da_nil))))
    (dss_one (ds_ret (de_add (de_add (de_sl (de_v 0) dp_none (dp_some (de_v 1))) (de_tup (da_cons (de_v 7) da_nil))) (de_sl (de_v 0) (dp_some (de_add (de_v 1) (de_int))) dp_none)))))))
/-! ### _law_deck -/
def m__law_deck : Fn := mkFn 1 5 (mSeq (mAsg (mDict2 "deep" "state" (mLst mNil) (m2 addD (mC (.int 1504)) (m1 lenD (mCons (mSl (mV 0) mNoP (mP (mC (.int 63)))) mNil)))) (gN 1))
  (mSeq (mFor (mI (mSl (mV 0) mNoP (mP (mC (.int 63))))) (gN 2) (mSeq (mAsg (m1 absD (mCons (mV 2) mNil)) (gN 3))
  (mSeq (mIte (mB (m2 geD (mV 3) (m2 powD (mC (.int 10)) (mC (.int 18))))) (mPut (m2 addD (mLst (mCons (mV 3) mNil)) (m2 ixD (mV 1) (mC (.str "deep")))) (mV 1) (mC (.str "deep"))) mSkip)
  (mSeq (mAsg (m2 addD (m2 mulD (m2 addD (m2 addD (m2 addD (m2 ixD (mV 1) (mC (.str "state"))) (m2 mulD (mC (.int 2)) (mV 3))) (m1 toIntD (mCons (m2 ltD (mV 2) (mC (.int 0))) mNil))) (mC (.int 1))) (mC (.int 1181783497276652981))) (mC (.int 521288629))) (gN 4))
  (mPut (m2 modD (m1 toIntD (mCons (mV 4) mNil)) (mC (.int 2305843009213693951))) (mV 1) (mC (.str "state")))))))
  (mRet (mV 1))))
theorem sc__law_deck : FnScope ["script", "deck", "cell", "whole", "state"] ["script"] (defScope s__law_deck) := ⟨rfl, rfl, rfl, by decide +kernel, rfl, by decide +kernel, by decide +kernel⟩
theorem ok__law_deck {P : Program} {w : World} {K : PySem.W.Frag} {mg : Str → Option Value} {base : Heap} (B : Bt mg) {f : Addr} {fd : FuncData} (F : Fun K "_law_deck" "_law_deck" s__law_deck f fd) : FnG P w K mg base 1 f fd ["script"] m__law_deck :=
  fn_g F sc__law_deck rfl rfl fun cdv A outer s H hr => by
    have nd := sc__law_deck.nd
    exact (dss_cons (ds_set 1 nd rfl (by first | exact Or.inl rfl | exact Or.inr rfl) (de_dict2 (by decide +kernel) (de_lst da_nil) (de_add (de_int) (de_len (by rfl) B.h_len (da_cons (de_sl (de_v 0) dp_none (dp_some (de_int))) da_nil)))))
    (dss_cons (ds_for [2] PassesOwn.never hr.calm (di_seq (de_sl (de_v 0) dp_none (dp_some (de_int)))) (dg_name [2] 2 nd rfl (by first | exact Or.inl rfl | exact Or.inr rfl) (by decide)) (dss_cons (ds_set 3 nd rfl (by first | exact Or.inl rfl | exact Or.inr rfl) (de_abs (by rfl) B.h_abs (da_cons (de_v 2) da_nil)))
    (dss_cons (ds_if (dt_ge (de_v 3) (de_pow (de_int) (de_int))) (dss_one (ds_put hr (de_v 1) (de_str) (de_add (de_lst (da_cons (de_v 3) da_nil)) (de_ix hr (de_v 1) (de_str))))) dss_nil)
    (dss_cons (ds_set 4 nd rfl (by first | exact Or.inl rfl | exact Or.inr rfl) (de_add (de_mul (de_add (de_add (de_add (de_ix hr (de_v 1) (de_str)) (de_mul (de_int) (de_v 3))) (de_toInt (by rfl) B.h_int (da_cons (de_lt (de_v 2) (de_int)) da_nil))) (de_int)) (de_int)) (de_int)))
    (dss_one (ds_put hr (de_v 1) (de_str) (de_mod (de_toInt (by rfl) B.h_int (da_cons (de_v 4) da_nil)) (de_int))))))))
    (dss_one (ds_ret (de_v 1)))))
/-! ### _law_draw -/
def m__law_draw : Fn := mkFn 2 5 (mSeq (mIte (mB (m2 ltD (mV 1) (mC (.int 2)))) (mRet (mC (.int 0))) mSkip)
  (mSeq (mIte (mB (m2 neD (m2 ixD (mV 0) (mC (.str "deep"))) (mLst mNil))) (mSeq (mAsg (mMeth0 popD (m2 ixD (mV 0) (mC (.str "deep")))) (gN 2))
  (mSeq (mIte (mB (m2 geD (mV 2) (mV 1))) (mDo (mMeth1 appD (m2 ixD (mV 0) (mC (.str "deep"))) (mCons (m2 fdivD (mV 2) (mV 1)) mNil))) mSkip)
  (mRet (m2 modD (m1 toIntD (mCons (mV 2) mNil)) (mV 1))))) mSkip)
  (mSeq (mAsg (m2 modD (m1 toIntD (mCons (m2 addD (m2 mulD (m2 ixD (mV 0) (mC (.str "state"))) (mC (.int 1181783497276652981))) (mC (.int 88172645463325))) mNil)) (mC (.int 2305843009213693951))) (gN 3))
  (mSeq (mPut (mV 3) (mV 0) (mC (.str "state")))
  (mSeq (mAsg (m2 modD (m1 toIntD (mCons (m2 addD (m2 addD (m2 mulD (mV 3) (mV 3)) (m2 mulD (mC (.int 374761393)) (mV 3))) (mC (.int 11))) mNil)) (mC (.int 2305843009213693921))) (gN 4))
  (mRet (m2 modD (m1 toIntD (mCons (m2 fdivD (mV 4) (mC (.int 1048576))) mNil)) (mV 1))))))))
theorem sc__law_draw : FnScope ["deck", "many", "whole", "one", "two"] ["deck", "many"] (defScope s__law_draw) := ⟨rfl, rfl, rfl, by decide +kernel, rfl, by decide +kernel, by decide +kernel⟩
theorem ok__law_draw {P : Program} {w : World} {K : PySem.W.Frag} {mg : Str → Option Value} {base : Heap} (B : Bt mg) {f : Addr} {fd : FuncData} (F : Fun K "_law_draw" "_law_draw" s__law_draw f fd) : FnG P w K mg base 1 f fd ["deck", "many"] m__law_draw :=
  fn_g F sc__law_draw rfl rfl fun cdv A outer s H hr => by
    have nd := sc__law_draw.nd
    exact (dss_cons (ds_if (dt_lt (de_v 1) (de_int)) (dss_one (ds_ret (de_int))) dss_nil)
    (dss_cons (ds_if (dt_ne hr (de_ix hr (de_v 0) (de_str)) (de_lst da_nil)) (dss_cons (ds_set 2 nd rfl (by first | exact Or.inl rfl | exact Or.inr rfl) (de_pop (de_ix hr (de_v 0) (de_str))))
    (dss_cons (ds_if (dt_ge (de_v 2) (de_v 1)) (dss_one (ds_do (de_append (de_ix hr (de_v 0) (de_str)) (da_cons (de_fdiv (de_v 2) (de_v 1)) da_nil)))) dss_nil)
    (dss_one (ds_ret (de_mod (de_toInt (by rfl) B.h_int (da_cons (de_v 2) da_nil)) (de_v 1)))))) dss_nil)
    (dss_cons (ds_set 3 nd rfl (by first | exact Or.inl rfl | exact Or.inr rfl) (de_mod (de_toInt (by rfl) B.h_int (da_cons (de_add (de_mul (de_ix hr (de_v 0) (de_str)) (de_int)) (de_int)) da_nil)) (de_int)))
    (dss_cons (ds_put hr (de_v 0) (de_str) (de_v 3))
    (dss_cons (ds_set 4 nd rfl (by first | exact Or.inl rfl | exact Or.inr rfl) (de_mod (de_toInt (by rfl) B.h_int (da_cons (de_add (de_add (de_mul (de_v 3) (de_v 3)) (de_mul (de_int) (de_v 3))) (de_int)) da_nil)) (de_int)))
    (dss_one (ds_ret (de_mod (de_toInt (by rfl) B.h_int (da_cons (de_fdiv (de_v 4) (de_int)) da_nil)) (de_v 1)))))))))
/-! ### _law_pick -/
def m__law_pick : Fn := mkFn 2 2 (mRet (m2 ixD (mV 1) (mCall m__law_draw (mCons (mV 0) (mCons (m1 lenD (mCons (mV 1) mNil)) mNil)))))
theorem sc__law_pick : FnScope ["deck", "items"] ["deck", "items"] (defScope s__law_pick) := ⟨rfl, rfl, rfl, by decide +kernel, rfl, by decide +kernel, by decide +kernel⟩
theorem ok__law_pick {P : Program} {w : World} {K : PySem.W.Frag} {mg : Str → Option Value} {base : Heap} (B : Bt mg) (k__law_draw : Kn P w K mg base 1 "_law_draw" s__law_draw ["deck", "many"] m__law_draw) {f : Addr} {fd : FuncData} (F : Fun K "_law_pick" "_law_pick" s__law_pick f fd) : FnG P w K mg base 2 f fd ["deck", "items"] m__law_pick :=
  fn_g F sc__law_pick rfl rfl fun cdv A outer s H hr => by
    have nd := sc__law_pick.nd
    exact (dss_one (ds_ret (de_ix hr (de_v 1) (de_k k__law_draw hr (by decide) (by rfl) (da_cons (de_v 0) (da_cons (de_len (by rfl) B.h_len (da_cons (de_v 1) da_nil)) da_nil))))))
/-! ### _law_leads -/
def m__law_leads : Fn := mkFn 2 2 (mSeq (mIte (mB (m2 inD (mV 0) (mTup (mCons (mC (.str "done")) (mCons (mC (.str "off")) mNil))))) (mRet (mC (.bl false))) mSkip)
  (mRet (m2 inD (mV 1) (mIf (mB (m2 eqD (mV 0) (mC (.str "open")))) (mTup (mCons (mC (.str "open")) (mCons (mC (.str "yes")) (mCons (mC (.str "off")) mNil)))) (mTup (mCons (mC (.str "yes")) (mCons (mC (.str "done")) (mCons (mC (.str "off")) mNil))))))))
theorem sc__law_leads : FnScope ["one", "other"] ["one", "other"] (defScope s__law_leads) := ⟨rfl, rfl, rfl, by decide +kernel, rfl, by decide +kernel, by decide +kernel⟩
theorem ok__law_leads {P : Program} {w : World} {K : PySem.W.Frag} {mg : Str → Option Value} {base : Heap} (B : Bt mg) {f : Addr} {fd : FuncData} (F : Fun K "_law_leads" "_law_leads" s__law_leads f fd) : FnG P w K mg base 1 f fd ["one", "other"] m__law_leads :=
  fn_g F sc__law_leads rfl rfl fun cdv A outer s H hr => by
    have nd := sc__law_leads.nd
    exact (dss_cons (ds_if (dt_in hr (de_v 0) (de_tup (da_cons (de_str) (da_cons (de_str) da_nil)))) (dss_one (ds_ret (de_bl))) dss_nil)
    (dss_one (ds_ret (de_in hr (de_v 1) (de_if (dt_eq hr (de_v 0) (de_str)) (de_tup (da_cons (de_str) (da_cons (de_str) (da_cons (de_str) da_nil)))) (de_tup (da_cons (de_str) (da_cons (de_str) (da_cons (de_str) da_nil)))))))))
/-! ### _law_pairs -/
def m__law_pairs : Fn := mkFn 4 9 (mSeq (mPar 4 5 (mCons (mComp [8] (mR1 (mCons (mV 1) mNil)) (gN 8) (mB (m2 neD (mV 8) (mV 2))) (mV 8)) (mCons (mLst mNil) mNil)))
  (mSeq (mFor (mR1 (mCons (mCall m__law_draw (mCons (mV 0) (mCons (m2 addD (mV 3) (mC (.int 1))) mNil))) mNil)) (gN 6) (mSeq (mAsg (mTup (mCons (mCall m__law_pick (mCons (mV 0) (mCons (mV 4) mNil))) (mCons (mCall m__law_pick (mCons (mV 0) (mCons (mLst (mCons (mC (.str "a")) (mCons (mC (.str "b")) (mCons (mC (.str "a")) (mCons (mC (.str "b")) (mCons (mC (.str "ok")) (mCons (mC (.str "sixsix")) mNil))))))) mNil))) mNil))) (gN 7))
  (mIte (mB (m2 notInD (mV 7) (mV 5))) (mDo (mMeth1 appD (mV 5) (mCons (mV 7) mNil))) mSkip)))
  (mRet (mV 5))))
theorem sc__law_pairs : FnScope ["deck", "n", "house", "most", "others", "found", "turn", "pair", "own"] ["deck", "n", "house", "most"] (defScope s__law_pairs) := ⟨rfl, rfl, rfl, by decide +kernel, rfl, by decide +kernel, by decide +kernel⟩
theorem ok__law_pairs {P : Program} {w : World} {K : PySem.W.Frag} {mg : Str → Option Value} {base : Heap} (B : Bt mg) (k__law_draw : Kn P w K mg base 1 "_law_draw" s__law_draw ["deck", "many"] m__law_draw) (k__law_pick : Kn P w K mg base 2 "_law_pick" s__law_pick ["deck", "items"] m__law_pick) {f : Addr} {fd : FuncData} (F : Fun K "_law_pairs" "_law_pairs" s__law_pairs f fd) : FnG P w K mg base 3 f fd ["deck", "n", "house", "most"] m__law_pairs :=
  fn_g F sc__law_pairs rfl rfl fun cdv A outer s H hr => by
    have nd := sc__law_pairs.nd
    exact (dss_cons (ds_par 4 5 hr.calm nd rfl rfl (by decide) rfl rfl (da_cons (de_comp [("own", 8)] [8] rfl hr.calm nd (di_r1 (by rfl) B.h_range (da_cons (de_v 1) da_nil)) (by kernel_rfl) (fun _ _ _ _ _ => (dg_name [8] 8 nd rfl (by first | exact Or.inl rfl | exact Or.inr rfl) (by decide))) (fun _ _ _ _ _ => (dts_one (dt_ne (RG.blk hr) (de_v 8) (de_v 2)))) (fun _ _ _ _ _ => (de_v 8))) (da_cons (de_lst da_nil) da_nil)) (by rfl))
    (dss_cons (ds_for [6] PassesOwn.never hr.calm (di_r1 (by rfl) B.h_range (da_cons (de_k k__law_draw hr (by decide) (by rfl) (da_cons (de_v 0) (da_cons (de_add (de_v 3) (de_int)) da_nil))) da_nil)) (dg_name [6] 6 nd rfl (by first | exact Or.inl rfl | exact Or.inr rfl) (by decide)) (dss_cons (ds_set 7 nd rfl (by first | exact Or.inl rfl | exact Or.inr rfl) (de_tup (da_cons (de_k k__law_pick hr (by decide) (by rfl) (da_cons (de_v 0) (da_cons (de_v 4) da_nil))) (da_cons (de_k k__law_pick hr (by decide) (by rfl) (da_cons (de_v 0) (da_cons (de_lst (da_cons (de_str) (da_cons (de_str) (da_cons (de_str) (da_cons (de_str) (da_cons (de_str) (da_cons (de_str) da_nil))))))) da_nil))) da_nil))))
    (dss_one (ds_if (dt_notIn hr (de_v 7) (de_v 5)) (dss_one (ds_do (de_append (de_v 5) (da_cons (de_v 7) da_nil)))) dss_nil))))
    (dss_one (ds_ret (de_v 5)))))
/-! ### _law_book -/
def m__law_book : Fn := mkFn 4 13 (mSeq (mAsg (m2 addD (mC (.int 1)) (mCall m__law_draw (mCons (mV 0) (mCons (mV 3) mNil)))) (gN 4))
  (mSeq (mAsg (mLst (mCons (mCall m__law_pick (mCons (mV 0) (mCons (mLst (mCons (mC (.str "open")) (mCons (mC (.str "open")) (mCons (mC (.str "yes")) mNil)))) mNil))) mNil)) (gN 5))
  (mSeq (mFor (mR1 (mCons (m2 subD (mV 4) (mC (.int 1))) mNil)) (gN 6) (mDo (mMeth1 appD (mV 5) (mCons (mCall m__law_pick (mCons (mV 0) (mCons (mLst (mCons (mC (.str "open")) (mCons (mC (.str "yes")) (mCons (mC (.str "yes")) (mCons (mC (.str "done")) (mCons (mC (.str "off")) mNil)))))) mNil))) mNil))))
  (mSeq (mAsg (mLst mNil) (gN 7))
  (mSeq (mFor (mR1 (mCons (mCall m__law_draw (mCons (mV 0) (mCons (mC (.int 6)) mNil))) mNil)) (gN 6) (mSeq (mAsg (mIf (mB (m2 ltD (mV 6) (mC (.int 2)))) (mC (.int 0)) (mCall m__law_draw (mCons (mV 0) (mCons (mV 4) mNil)))) (gN 8))
  (mSeq (mAsg (mComp [12] (mR2 (mCons (m2 addD (mV 8) (mC (.int 1))) (mCons (mV 4) mNil))) (gN 12) (mB (mCall m__law_leads (mCons (m2 ixD (mV 5) (mV 8)) (mCons (m2 ixD (mV 5) (mV 12)) mNil)))) (mV 12)) (gN 9))
  (mIte (mB (m2 neD (mV 9) (mLst mNil))) (mSeq (mAsg (m1 tupleD (mCons (m1 sortD (mCons (mCall m__law_pairs (mCons (mV 0) (mCons (mV 1) (mCons (mV 2) (mCons (mCall m__law_pick (mCons (mV 0) (mCons (mLst (mCons (mC (.int 0)) (mCons (mC (.int 0)) (mCons (mC (.int 1)) (mCons (mC (.int 1)) (mCons (mC (.int 2)) (mCons (mC (.int 4)) mNil))))))) mNil))) mNil))))) mNil)) mNil)) (gN 10))
  (mSeq (mAsg (m1 tupleD (mCons (mCall m__law_pairs (mCons (mV 0) (mCons (mV 1) (mCons (mV 2) (mCons (mCall m__law_pick (mCons (mV 0) (mCons (mLst (mCons (mC (.int 0)) (mCons (mC (.int 1)) (mCons (mC (.int 2)) (mCons (mC (.int 3)) (mCons (mC (.int 6)) mNil)))))) mNil))) mNil))))) mNil)) (gN 11))
  (mDo (mMeth1 appD (mV 7) (mCons (mTup (mCons (mV 8) (mCons (mV 10) (mCons (mCall m__law_pick (mCons (mV 0) (mCons (mV 9) mNil))) (mCons (mV 11) (mCons (m2 eqD (mCall m__law_draw (mCons (mV 0) (mCons (mC (.int 3)) mNil))) (mC (.int 0))) mNil)))))) mNil))))) mSkip))))
  (mRet (mTup (mCons (m1 tupleD (mCons (mV 5) mNil)) (mCons (m1 tupleD (mCons (mV 7) mNil)) mNil)))))))))
theorem sc__law_book : FnScope ["deck", "n", "house", "most", "many", "sorts", "turn", "rows", "state", "goals", "takes", "sends", "own"] ["deck", "n", "house", "most"] (defScope s__law_book) := ⟨rfl, rfl, rfl, by decide +kernel, rfl, by decide +kernel, by decide +kernel⟩
theorem ok__law_book {P : Program} {w : World} {K : PySem.W.Frag} {mg : Str → Option Value} {base : Heap} (B : Bt mg) (k__law_draw : Kn P w K mg base 1 "_law_draw" s__law_draw ["deck", "many"] m__law_draw) (k__law_pick : Kn P w K mg base 2 "_law_pick" s__law_pick ["deck", "items"] m__law_pick) (k__law_leads : Kn P w K mg base 1 "_law_leads" s__law_leads ["one", "other"] m__law_leads) (k__law_pairs : Kn P w K mg base 3 "_law_pairs" s__law_pairs ["deck", "n", "house", "most"] m__law_pairs) {f : Addr} {fd : FuncData} (F : Fun K "_law_book" "_law_book" s__law_book f fd) : FnG P w K mg base 4 f fd ["deck", "n", "house", "most"] m__law_book :=
  fn_g F sc__law_book rfl rfl fun cdv A outer s H hr => by
    have nd := sc__law_book.nd
    exact (dss_cons (ds_set 4 nd rfl (by first | exact Or.inl rfl | exact Or.inr rfl) (de_add (de_int) (de_k k__law_draw hr (by decide) (by rfl) (da_cons (de_v 0) (da_cons (de_v 3) da_nil)))))
    (dss_cons (ds_set 5 nd rfl (by first | exact Or.inl rfl | exact Or.inr rfl) (de_lst (da_cons (de_k k__law_pick hr (by decide) (by rfl) (da_cons (de_v 0) (da_cons (de_lst (da_cons (de_str) (da_cons (de_str) (da_cons (de_str) da_nil)))) da_nil))) da_nil)))
    (dss_cons (ds_for [6] PassesOwn.never hr.calm (di_r1 (by rfl) B.h_range (da_cons (de_sub (de_v 4) (de_int)) da_nil)) (dg_name [6] 6 nd rfl (by first | exact Or.inl rfl | exact Or.inr rfl) (by decide)) (dss_one (ds_do (de_append (de_v 5) (da_cons (de_k k__law_pick hr (by decide) (by rfl) (da_cons (de_v 0) (da_cons (de_lst (da_cons (de_str) (da_cons (de_str) (da_cons (de_str) (da_cons (de_str) (da_cons (de_str) da_nil)))))) da_nil))) da_nil)))))
    (dss_cons (ds_set 7 nd rfl (by first | exact Or.inl rfl | exact Or.inr rfl) (de_lst da_nil))
    (dss_cons (ds_for [6] PassesOwn.never hr.calm (di_r1 (by rfl) B.h_range (da_cons (de_k k__law_draw hr (by decide) (by rfl) (da_cons (de_v 0) (da_cons (de_int) da_nil))) da_nil)) (dg_name [6] 6 nd rfl (by first | exact Or.inl rfl | exact Or.inr rfl) (by decide)) (dss_cons (ds_set 8 nd rfl (by first | exact Or.inl rfl | exact Or.inr rfl) (de_if (dt_lt (de_v 6) (de_int)) (de_int) (de_k k__law_draw hr (by decide) (by rfl) (da_cons (de_v 0) (da_cons (de_v 4) da_nil)))))
    (dss_cons (ds_comp 9 [("own", 12)] [12] rfl hr.calm nd rfl rfl (by rfl) (di_r2 (by rfl) B.h_range (da_cons (de_add (de_v 8) (de_int)) (da_cons (de_v 4) da_nil))) (by kernel_rfl) (fun _ _ _ _ _ => (dg_name [12] 12 nd rfl (by first | exact Or.inl rfl | exact Or.inr rfl) (by decide))) (fun _ _ _ _ _ => (dts_one (dt_val (de_k k__law_leads (RG.blk hr) (by decide) (by rfl) (da_cons (de_ix (RG.blk hr) (de_v 5) (de_v 8)) (da_cons (de_ix (RG.blk hr) (de_v 5) (de_v 12)) da_nil)))))) (fun _ _ _ _ _ => (de_v 12)))
    (dss_one (ds_if (dt_ne hr (de_v 9) (de_lst da_nil)) (dss_cons (ds_set 10 nd rfl (by first | exact Or.inl rfl | exact Or.inr rfl) (de_tuple (by rfl) B.h_tuple (da_cons (de_sorted (by rfl) B.h_sorted (da_cons (de_k k__law_pairs hr (by decide) (by rfl) (da_cons (de_v 0) (da_cons (de_v 1) (da_cons (de_v 2) (da_cons (de_k k__law_pick hr (by decide) (by rfl) (da_cons (de_v 0) (da_cons (de_lst (da_cons (de_int) (da_cons (de_int) (da_cons (de_int) (da_cons (de_int) (da_cons (de_int) (da_cons (de_int) da_nil))))))) da_nil))) da_nil))))) da_nil)) da_nil)))
    (dss_cons (ds_set 11 nd rfl (by first | exact Or.inl rfl | exact Or.inr rfl) (de_tuple (by rfl) B.h_tuple (da_cons (de_k k__law_pairs hr (by decide) (by rfl) (da_cons (de_v 0) (da_cons (de_v 1) (da_cons (de_v 2) (da_cons (de_k k__law_pick hr (by decide) (by rfl) (da_cons (de_v 0) (da_cons (de_lst (da_cons (de_int) (da_cons (de_int) (da_cons (de_int) (da_cons (de_int) (da_cons (de_int) da_nil)))))) da_nil))) da_nil))))) da_nil)))
    (dss_one (ds_do (de_append (de_v 7) (da_cons (de_tup (da_cons (de_v 8) (da_cons (de_v 10) (da_cons (de_k k__law_pick hr (by decide) (by rfl) (da_cons (de_v 0) (da_cons (de_v 9) da_nil))) (da_cons (de_v 11) (da_cons (de_eq hr (de_k k__law_draw hr (by decide) (by rfl) (da_cons (de_v 0) (da_cons (de_int) da_nil))) (de_int)) da_nil)))))) da_nil)))))) dss_nil)))))
    (dss_one (ds_ret (de_tup (da_cons (de_tuple (by rfl) B.h_tuple (da_cons (de_v 5) da_nil)) (da_cons (de_tuple (by rfl) B.h_tuple (da_cons (de_v 7) da_nil)) da_nil))))))))))
/-! ### _law_asking -/
def m__law_asking : Fn := mkFn 3 11 (mSeq (mPar 3 4 (mCons (mTup (mCons (mC (.str "open")) (mCons (mC (.str "yes")) (mCons (mC (.str "done")) (mCons (mC (.str "off")) mNil))))) (mCons (mListRg (mRg2 (mC (.int 1)) (mV 1))) mNil)))
  (mSeq (mPar 5 6 (mCons (m1 tupleD (mCons (mComp [9] (mI (mV 4)) (gN 9) mYes (mTup (mCons (mV 9) (mCons (mC (.str "ok")) mNil)))) mNil)) (mCons (m1 tupleD (mCons (mComp [9] (mI (mV 4)) (gN 9) mYes (mTup (mCons (mV 9) (mCons (mV 2) mNil)))) mNil)) mNil)))
  (mSeq (mAsg (mLst (mCons (mTup (mCons (mC (.int 0)) (mCons (mTup mNil) (mCons (mC (.int 1)) (mCons (m1 tupleD (mCons (mComp [9] (mI (mV 4)) (gN 9) mYes (mTup (mCons (mV 9) (mCons (mC (.str "ask")) mNil)))) mNil)) (mCons (m2 eqD (mCall m__law_draw (mCons (mV 0) (mCons (mC (.int 2)) mNil))) (mC (.int 0))) mNil)))))) mNil)) (gN 7))
  (mSeq (mDo (mMeth1 appD (mV 7) (mCons (mTup (mCons (mC (.int 1)) (mCons (mV 5) (mCons (mC (.int 2)) (mCons (mV 6) (mCons (m2 eqD (mCall m__law_draw (mCons (mV 0) (mCons (mC (.int 2)) mNil))) (mC (.int 0))) mNil)))))) mNil)))
  (mSeq (mAsg (m2 addD (mV 7) (mComp [9] (mI (mV 4)) (gN 9) mYes (mTup (mCons (mC (.int 1)) (mCons (mTup (mCons (mTup (mCons (mV 9) (mCons (mC (.str "no")) mNil))) mNil)) (mCons (mC (.int 3)) (mCons (mTup mNil) (mCons (mC (.bl false)) mNil)))))))) (gN 7))
  (mSeq (mAsg (mLst (mCons (mTup (mCons (mV 3) (mCons (m1 tupleD (mCons (mV 7) mNil)) mNil))) mNil)) (gN 8))
  (mSeq (mFor (mI (mV 4)) (gN 9) (mSeq (mAsg (mLst (mCons (mTup (mCons (mC (.int 0)) (mCons (mTup (mCons (mTup (mCons (mC (.int 0)) (mCons (mC (.str "ask")) mNil))) mNil)) (mCons (mC (.int 1)) (mCons (mTup (mCons (mTup (mCons (mC (.int 0)) (mCons (mC (.str "ok")) mNil))) mNil)) (mCons (m2 eqD (mCall m__law_draw (mCons (mV 0) (mCons (mC (.int 2)) mNil))) (mC (.int 0))) mNil)))))) mNil)) (gN 10))
  (mSeq (mDo (mMeth1 appD (mV 10) (mCons (mTup (mCons (mC (.int 0)) (mCons (mTup (mCons (mTup (mCons (mC (.int 0)) (mCons (mC (.str "ask")) mNil))) mNil)) (mCons (mC (.int 3)) (mCons (mTup (mCons (mTup (mCons (mC (.int 0)) (mCons (mC (.str "no")) mNil))) mNil)) (mCons (m2 eqD (mCall m__law_draw (mCons (mV 0) (mCons (mC (.int 2)) mNil))) (mC (.int 0))) mNil)))))) mNil)))
  (mDo (mMeth1 appD (mV 8) (mCons (mTup (mCons (mV 3) (mCons (m1 tupleD (mCons (m2 addD (mV 10) (mLst (mCons (mTup (mCons (mC (.int 1)) (mCons (mTup (mCons (mTup (mCons (mC (.int 0)) (mCons (mV 2) mNil))) mNil)) (mCons (mC (.int 2)) (mCons (mTup mNil) (mCons (m2 eqD (mCall m__law_draw (mCons (mV 0) (mCons (mC (.int 2)) mNil))) (mC (.int 0))) mNil)))))) mNil))) mNil)) mNil))) mNil))))))
  (mRet (m1 tupleD (mCons (mV 8) mNil))))))))))
theorem sc__law_asking : FnScope ["deck", "n", "last", "four", "others", "takes", "sends", "rows", "found", "own", "told"] ["deck", "n", "last"] (defScope s__law_asking) := ⟨rfl, rfl, rfl, by decide +kernel, rfl, by decide +kernel, by decide +kernel⟩
theorem ok__law_asking {P : Program} {w : World} {K : PySem.W.Frag} {mg : Str → Option Value} {base : Heap} (B : Bt mg) (k__law_draw : Kn P w K mg base 1 "_law_draw" s__law_draw ["deck", "many"] m__law_draw) {f : Addr} {fd : FuncData} (F : Fun K "_law_asking" "_law_asking" s__law_asking f fd) : FnG P w K mg base 2 f fd ["deck", "n", "last"] m__law_asking :=
  fn_g F sc__law_asking rfl rfl fun cdv A outer s H hr => by
    have nd := sc__law_asking.nd
    exact (dss_cons (ds_par 3 4 hr.calm nd rfl rfl (by decide) rfl rfl (da_cons (de_tup (da_cons (de_str) (da_cons (de_str) (da_cons (de_str) (da_cons (de_str) da_nil))))) (da_cons (de_listRg2 hr.calm (by rfl) B.h_list (by rfl) B.h_range (de_int) (de_v 1)) da_nil)) (by rfl))
    (dss_cons (ds_par 5 6 hr.calm nd rfl rfl (by decide) rfl rfl (da_cons (de_tuple (by rfl) B.h_tuple (da_cons (de_comp [("own", 9)] [9] rfl hr.calm nd (di_seq (de_v 4)) (by kernel_rfl) (fun _ _ _ _ _ => (dg_name [9] 9 nd rfl (by first | exact Or.inl rfl | exact Or.inr rfl) (by decide))) (fun _ _ _ _ _ => dts_nil) (fun _ _ _ _ _ => (de_tup (da_cons (de_v 9) (da_cons (de_str) da_nil))))) da_nil)) (da_cons (de_tuple (by rfl) B.h_tuple (da_cons (de_comp [("own", 9)] [9] rfl hr.calm nd (di_seq (de_v 4)) (by kernel_rfl) (fun _ _ _ _ _ => (dg_name [9] 9 nd rfl (by first | exact Or.inl rfl | exact Or.inr rfl) (by decide))) (fun _ _ _ _ _ => dts_nil) (fun _ _ _ _ _ => (de_tup (da_cons (de_v 9) (da_cons (de_v 2) da_nil))))) da_nil)) da_nil)) (by rfl))
    (dss_cons (ds_set 7 nd rfl (by first | exact Or.inl rfl | exact Or.inr rfl) (de_lst (da_cons (de_tup (da_cons (de_int) (da_cons (de_tup da_nil) (da_cons (de_int) (da_cons (de_tuple (by rfl) B.h_tuple (da_cons (de_comp [("own", 9)] [9] rfl hr.calm nd (di_seq (de_v 4)) (by kernel_rfl) (fun _ _ _ _ _ => (dg_name [9] 9 nd rfl (by first | exact Or.inl rfl | exact Or.inr rfl) (by decide))) (fun _ _ _ _ _ => dts_nil) (fun _ _ _ _ _ => (de_tup (da_cons (de_v 9) (da_cons (de_str) da_nil))))) da_nil)) (da_cons (de_eq hr (de_k k__law_draw hr (by decide) (by rfl) (da_cons (de_v 0) (da_cons (de_int) da_nil))) (de_int)) da_nil)))))) da_nil)))
    (dss_cons (ds_do (de_append (de_v 7) (da_cons (de_tup (da_cons (de_int) (da_cons (de_v 5) (da_cons (de_int) (da_cons (de_v 6) (da_cons (de_eq hr (de_k k__law_draw hr (by decide) (by rfl) (da_cons (de_v 0) (da_cons (de_int) da_nil))) (de_int)) da_nil)))))) da_nil)))
    (dss_cons (ds_set 7 nd rfl (by first | exact Or.inl rfl | exact Or.inr rfl) (de_add (de_v 7) (de_comp [("own", 9)] [9] rfl hr.calm nd (di_seq (de_v 4)) (by kernel_rfl) (fun _ _ _ _ _ => (dg_name [9] 9 nd rfl (by first | exact Or.inl rfl | exact Or.inr rfl) (by decide))) (fun _ _ _ _ _ => dts_nil) (fun _ _ _ _ _ => (de_tup (da_cons (de_int) (da_cons (de_tup (da_cons (de_tup (da_cons (de_v 9) (da_cons (de_str) da_nil))) da_nil)) (da_cons (de_int) (da_cons (de_tup da_nil) (da_cons (de_bl) da_nil))))))))))
    (dss_cons (ds_set 8 nd rfl (by first | exact Or.inl rfl | exact Or.inr rfl) (de_lst (da_cons (de_tup (da_cons (de_v 3) (da_cons (de_tuple (by rfl) B.h_tuple (da_cons (de_v 7) da_nil)) da_nil))) da_nil)))
    (dss_cons (ds_for [9] PassesOwn.never hr.calm (di_seq (de_v 4)) (dg_name [9] 9 nd rfl (by first | exact Or.inl rfl | exact Or.inr rfl) (by decide)) (dss_cons (ds_set 10 nd rfl (by first | exact Or.inl rfl | exact Or.inr rfl) (de_lst (da_cons (de_tup (da_cons (de_int) (da_cons (de_tup (da_cons (de_tup (da_cons (de_int) (da_cons (de_str) da_nil))) da_nil)) (da_cons (de_int) (da_cons (de_tup (da_cons (de_tup (da_cons (de_int) (da_cons (de_str) da_nil))) da_nil)) (da_cons (de_eq hr (de_k k__law_draw hr (by decide) (by rfl) (da_cons (de_v 0) (da_cons (de_int) da_nil))) (de_int)) da_nil)))))) da_nil)))
    (dss_cons (ds_do (de_append (de_v 10) (da_cons (de_tup (da_cons (de_int) (da_cons (de_tup (da_cons (de_tup (da_cons (de_int) (da_cons (de_str) da_nil))) da_nil)) (da_cons (de_int) (da_cons (de_tup (da_cons (de_tup (da_cons (de_int) (da_cons (de_str) da_nil))) da_nil)) (da_cons (de_eq hr (de_k k__law_draw hr (by decide) (by rfl) (da_cons (de_v 0) (da_cons (de_int) da_nil))) (de_int)) da_nil)))))) da_nil)))
    (dss_one (ds_do (de_append (de_v 8) (da_cons (de_tup (da_cons (de_v 3) (da_cons (de_tuple (by rfl) B.h_tuple (da_cons (de_add (de_v 10) (de_lst (da_cons (de_tup (da_cons (de_int) (da_cons (de_tup (da_cons (de_tup (da_cons (de_int) (da_cons (de_v 2) da_nil))) da_nil)) (da_cons (de_int) (da_cons (de_tup da_nil) (da_cons (de_eq hr (de_k k__law_draw hr (by decide) (by rfl) (da_cons (de_v 0) (da_cons (de_int) da_nil))) (de_int)) da_nil)))))) da_nil))) da_nil)) da_nil))) da_nil)))))))
    (dss_one (ds_ret (de_tuple (by rfl) B.h_tuple (da_cons (de_v 8) da_nil)))))))))))
/-! ### _law_agreement -/
def m__law_agreement : Fn := mkFn 1 3 (mSeq (mAsg (mCall m__law_pick (mCons (mV 0) (mCons (mLst (mCons (mC (.int 2)) (mCons (mC (.int 2)) (mCons (mC (.int 3)) (mCons (mC (.int 3)) (mCons (mC (.int 4)) mNil)))))) mNil))) (gN 1))
  (mSeq (mIte (mB (m2 eqD (mCall m__law_draw (mCons (mV 0) (mCons (mC (.int 3)) mNil))) (mC (.int 0)))) (mRet (mCall m__law_asking (mCons (mV 0) (mCons (mV 1) (mCons (mCall m__law_pick (mCons (mV 0) (mCons (mLst (mCons (mC (.str "do")) (mCons (mC (.str "a")) (mCons (mC (.str "ok")) mNil)))) mNil))) mNil))))) mSkip)
  (mRet (m1 tupleD (mCons (mComp [2] (mR1 (mCons (mV 1) mNil)) (gN 2) mYes (mCall m__law_book (mCons (mV 0) (mCons (mV 1) (mCons (mV 2) (mCons (mCall m__law_pick (mCons (mV 0) (mCons (mLst (mCons (mC (.int 3)) (mCons (mC (.int 4)) (mCons (mC (.int 5)) (mCons (mC (.int 8)) mNil))))) mNil))) mNil)))))) mNil)))))
theorem sc__law_agreement : FnScope ["deck", "n", "house"] ["deck"] (defScope s__law_agreement) := ⟨rfl, rfl, rfl, by decide +kernel, rfl, by decide +kernel, by decide +kernel⟩
theorem ok__law_agreement {P : Program} {w : World} {K : PySem.W.Frag} {mg : Str → Option Value} {base : Heap} (B : Bt mg) (k__law_draw : Kn P w K mg base 1 "_law_draw" s__law_draw ["deck", "many"] m__law_draw) (k__law_pick : Kn P w K mg base 2 "_law_pick" s__law_pick ["deck", "items"] m__law_pick) (k__law_book : Kn P w K mg base 4 "_law_book" s__law_book ["deck", "n", "house", "most"] m__law_book) (k__law_asking : Kn P w K mg base 2 "_law_asking" s__law_asking ["deck", "n", "last"] m__law_asking) {f : Addr} {fd : FuncData} (F : Fun K "_law_agreement" "_law_agreement" s__law_agreement f fd) : FnG P w K mg base 5 f fd ["deck"] m__law_agreement :=
  fn_g F sc__law_agreement rfl rfl fun cdv A outer s H hr => by
    have nd := sc__law_agreement.nd
    exact (dss_cons (ds_set 1 nd rfl (by first | exact Or.inl rfl | exact Or.inr rfl) (de_k k__law_pick hr (by decide) (by rfl) (da_cons (de_v 0) (da_cons (de_lst (da_cons (de_int) (da_cons (de_int) (da_cons (de_int) (da_cons (de_int) (da_cons (de_int) da_nil)))))) da_nil))))
    (dss_cons (ds_if (dt_eq hr (de_k k__law_draw hr (by decide) (by rfl) (da_cons (de_v 0) (da_cons (de_int) da_nil))) (de_int)) (dss_one (ds_ret (de_k k__law_asking hr (by decide) (by rfl) (da_cons (de_v 0) (da_cons (de_v 1) (da_cons (de_k k__law_pick hr (by decide) (by rfl) (da_cons (de_v 0) (da_cons (de_lst (da_cons (de_str) (da_cons (de_str) (da_cons (de_str) da_nil)))) da_nil))) da_nil)))))) dss_nil)
    (dss_one (ds_ret (de_tuple (by rfl) B.h_tuple (da_cons (de_comp [("house", 2)] [2] rfl hr.calm nd (di_r1 (by rfl) B.h_range (da_cons (de_v 1) da_nil)) (by kernel_rfl) (fun _ _ _ _ _ => (dg_name [2] 2 nd rfl (by first | exact Or.inl rfl | exact Or.inr rfl) (by decide))) (fun _ _ _ _ _ => dts_nil) (fun _ _ _ _ _ => (de_k k__law_book (RG.blk hr) (by decide) (by rfl) (da_cons (de_v 0) (da_cons (de_v 1) (da_cons (de_v 2) (da_cons (de_k k__law_pick (RG.blk hr) (by decide) (by rfl) (da_cons (de_v 0) (da_cons (de_lst (da_cons (de_int) (da_cons (de_int) (da_cons (de_int) (da_cons (de_int) da_nil))))) da_nil))) da_nil))))))) da_nil))))))
/-! ### _law_turned -/
def m__law_turned : Fn := mkFn 4 15 (mSeq (mAsg (mLst mNil) (gN 4))
  (mSeq (mFor (mEnum (mCons (mV 0) mNil)) (gT (gsCons (gN 5) (gsCons (gT (gsCons (gN 6) (gsCons (gN 7) gsNil))) gsNil))) (mSeq (mAsg (mLst mNil) (gN 8))
  (mSeq (mFor (mEnum (mCons (mV 7) mNil)) (gT (gsCons (gN 9) (gsCons (gT (gsCons (gN 10) (gsCons (gN 11) (gsCons (gN 12) (gsCons (gN 13) (gsCons (gN 14) gsNil)))))) gsNil))) (mDo (mMeth1 appD (mV 8) (mCons (mTup (mCons (mV 10) (mCons (mV 11) (mCons (mV 12) (mCons (mV 13) (mCons (mIf (mB (m2 eqD (mTup (mCons (mV 5) (mCons (mV 9) mNil))) (mTup (mCons (mV 1) (mCons (mV 2) mNil))))) (mV 3) (mV 14)) mNil)))))) mNil))))
  (mDo (mMeth1 appD (mV 4) (mCons (mTup (mCons (mV 6) (mCons (m1 tupleD (mCons (mV 8) mNil)) mNil))) mNil))))))
  (mRet (m1 tupleD (mCons (mV 4) mNil)))))
theorem sc__law_turned : FnScope ["agreement", "house", "k", "is_late", "found", "own", "sorts", "rows", "fresh", "place", "state", "takes", "onto", "sends", "was_late"] ["agreement", "house", "k", "is_late"] (defScope s__law_turned) := ⟨rfl, rfl, rfl, by decide +kernel, rfl, by decide +kernel, by decide +kernel⟩
theorem ok__law_turned {P : Program} {w : World} {K : PySem.W.Frag} {mg : Str → Option Value} {base : Heap} (B : Bt mg) {f : Addr} {fd : FuncData} (F : Fun K "_law_turned" "_law_turned" s__law_turned f fd) : FnG P w K mg base 1 f fd ["agreement", "house", "k", "is_late"] m__law_turned :=
  fn_g F sc__law_turned rfl rfl fun cdv A outer s H hr => by
    have nd := sc__law_turned.nd
    exact (dss_cons (ds_set 4 nd rfl (by first | exact Or.inl rfl | exact Or.inr rfl) (de_lst da_nil))
    (dss_cons (ds_for [5, 6, 7] PassesOwn.never hr.calm (di_enum (by rfl) B.h_enumerate (da_cons (de_v 0) da_nil)) (dg_tup hr.calm (dgs_cons (dg_name [5, 6, 7] 5 nd rfl (by first | exact Or.inl rfl | exact Or.inr rfl) (by decide)) (dgs_cons (dg_tup hr.calm (dgs_cons (dg_name [5, 6, 7] 6 nd rfl (by first | exact Or.inl rfl | exact Or.inr rfl) (by decide)) (dgs_cons (dg_name [5, 6, 7] 7 nd rfl (by first | exact Or.inl rfl | exact Or.inr rfl) (by decide)) (dgs_nil [5, 6, 7])))) (dgs_nil [5, 6, 7])))) (dss_cons (ds_set 8 nd rfl (by first | exact Or.inl rfl | exact Or.inr rfl) (de_lst da_nil))
    (dss_cons (ds_for [9, 10, 11, 12, 13, 14] PassesOwn.never hr.calm (di_enum (by rfl) B.h_enumerate (da_cons (de_v 7) da_nil)) (dg_tup hr.calm (dgs_cons (dg_name [9, 10, 11, 12, 13, 14] 9 nd rfl (by first | exact Or.inl rfl | exact Or.inr rfl) (by decide)) (dgs_cons (dg_tup hr.calm (dgs_cons (dg_name [9, 10, 11, 12, 13, 14] 10 nd rfl (by first | exact Or.inl rfl | exact Or.inr rfl) (by decide)) (dgs_cons (dg_name [9, 10, 11, 12, 13, 14] 11 nd rfl (by first | exact Or.inl rfl | exact Or.inr rfl) (by decide)) (dgs_cons (dg_name [9, 10, 11, 12, 13, 14] 12 nd rfl (by first | exact Or.inl rfl | exact Or.inr rfl) (by decide)) (dgs_cons (dg_name [9, 10, 11, 12, 13, 14] 13 nd rfl (by first | exact Or.inl rfl | exact Or.inr rfl) (by decide)) (dgs_cons (dg_name [9, 10, 11, 12, 13, 14] 14 nd rfl (by first | exact Or.inl rfl | exact Or.inr rfl) (by decide)) (dgs_nil [9, 10, 11, 12, 13, 14]))))))) (dgs_nil [9, 10, 11, 12, 13, 14])))) (dss_one (ds_do (de_append (de_v 8) (da_cons (de_tup (da_cons (de_v 10) (da_cons (de_v 11) (da_cons (de_v 12) (da_cons (de_v 13) (da_cons (de_if (dt_eq hr (de_tup (da_cons (de_v 5) (da_cons (de_v 9) da_nil))) (de_tup (da_cons (de_v 1) (da_cons (de_v 2) da_nil)))) (de_v 3) (de_v 14)) da_nil)))))) da_nil)))))
    (dss_one (ds_do (de_append (de_v 4) (da_cons (de_tup (da_cons (de_v 6) (da_cons (de_tuple (by rfl) B.h_tuple (da_cons (de_v 8) da_nil)) da_nil))) da_nil)))))))
    (dss_one (ds_ret (de_tuple (by rfl) B.h_tuple (da_cons (de_v 4) da_nil))))))
/-! ### _law_are_kinds -/
def m__law_are_kinds : Fn := mkFn 2 8 (mSeq (mFor (mEnum (mCons (mV 0) mNil)) (gT (gsCons (gN 2) (gsCons (gT (gsCons (gN 3) (gsCons (gN 4) gsNil))) gsNil))) (mFor (mEnum (mCons (mV 3) mNil)) (gT (gsCons (gN 5) (gsCons (gN 6) gsNil))) (mSeq (mAsg (mIf (mB (mV 1)) (mCallK m_kind [2, 1, 0] mNil (mCons (mV 5) (mCons (mV 2) (mCons (mV 0) mNil)))) (mCall m_kind (mCons (mV 0) (mCons (mV 2) (mCons (mV 5) mNil))))) (gN 7))
  (mIte (mB (m2 neD (m1 reprD (mCons (mLst (mCons (mV 7) (mCons (mCall m_kind (mCons (mV 0) (mCons (mV 2) (mCons (mV 5) mNil)))) mNil))) mNil)) (m1 reprD (mCons (mLst (mCons (mV 6) (mCons (mV 6) mNil))) mNil)))) (mRet (mC (.bl false))) mSkip))))
  (mRet (mC (.bl true))))
theorem sc__law_are_kinds : FnScope ["agreement", "is_named", "house", "sorts", "rows", "state", "due", "told"] ["agreement", "is_named"] (defScope s__law_are_kinds) := ⟨rfl, rfl, rfl, by decide +kernel, rfl, by decide +kernel, by decide +kernel⟩
theorem ok__law_are_kinds {P : Program} {w : World} {K : PySem.W.Frag} {mg : Str → Option Value} {base : Heap} (B : Bt mg) (k_kind : Kn P w K mg base 1 "kind" s_kind ["agreement", "house", "state"] m_kind) {f : Addr} {fd : FuncData} (F : Fun K "_law_are_kinds" "_law_are_kinds" s__law_are_kinds f fd) : FnG P w K mg base 2 f fd ["agreement", "is_named"] m__law_are_kinds :=
  fn_g F sc__law_are_kinds rfl rfl fun cdv A outer s H hr => by
    have nd := sc__law_are_kinds.nd
    exact (dss_cons (ds_for [2, 3, 4] PassesOwn.never hr.calm (di_enum (by rfl) B.h_enumerate (da_cons (de_v 0) da_nil)) (dg_tup hr.calm (dgs_cons (dg_name [2, 3, 4] 2 nd rfl (by first | exact Or.inl rfl | exact Or.inr rfl) (by decide)) (dgs_cons (dg_tup hr.calm (dgs_cons (dg_name [2, 3, 4] 3 nd rfl (by first | exact Or.inl rfl | exact Or.inr rfl) (by decide)) (dgs_cons (dg_name [2, 3, 4] 4 nd rfl (by first | exact Or.inl rfl | exact Or.inr rfl) (by decide)) (dgs_nil [2, 3, 4])))) (dgs_nil [2, 3, 4])))) (dss_one (ds_for [5, 6] PassesOwn.never hr.calm (di_enum (by rfl) B.h_enumerate (da_cons (de_v 3) da_nil)) (dg_tup hr.calm (dgs_cons (dg_name [5, 6] 5 nd rfl (by first | exact Or.inl rfl | exact Or.inr rfl) (by decide)) (dgs_cons (dg_name [5, 6] 6 nd rfl (by first | exact Or.inl rfl | exact Or.inr rfl) (by decide)) (dgs_nil [5, 6])))) (dss_cons (ds_set 7 nd rfl (by first | exact Or.inl rfl | exact Or.inr rfl) (de_if (dt_val (de_v 1)) (de_kk0 (perm := [2, 1, 0]) k_kind hr (by decide) (by rfl) ["state", "house", "agreement"] (by decide) (fun _ _ _ _ _ _ us ws h1 h2 => match us, ws, h1, h2 with | [], [_, _, _], _, _ => rfl) (dk_cons (de_v 5) (dk_cons (de_v 2) (dk_cons (de_v 0) dk_nil)))) (de_k k_kind hr (by decide) (by rfl) (da_cons (de_v 0) (da_cons (de_v 2) (da_cons (de_v 5) da_nil))))))
    (dss_one (ds_if (dt_ne hr (de_repr hr (by rfl) B.h_repr (da_cons (de_lst (da_cons (de_v 7) (da_cons (de_k k_kind hr (by decide) (by rfl) (da_cons (de_v 0) (da_cons (de_v 2) (da_cons (de_v 5) da_nil)))) da_nil))) da_nil)) (de_repr hr (by rfl) B.h_repr (da_cons (de_lst (da_cons (de_v 6) (da_cons (de_v 6) da_nil))) da_nil))) (dss_one (ds_ret (de_bl))) dss_nil))))))
    (dss_one (ds_ret (de_bl))))
/-! ### _law_are_late -/
def m__law_are_late : Fn := mkFn 3 11 (mSeq (mFor (mEnum (mCons (mV 1) mNil)) (gT (gsCons (gN 3) (gsCons (gT (gsCons (gN 4) (gsCons (gN 5) gsNil))) gsNil))) (mFor (mR1 (mCons (m1 lenD (mCons (mV 5) mNil)) mNil)) (gN 6) (mSeq (mAsg (m2 eqD (mCall m__law_draw (mCons (mV 0) (mCons (mC (.int 2)) mNil))) (mC (.int 0))) (gN 7))
  (mSeq (mAsg (mCall m__law_turned (mCons (mV 1) (mCons (mV 3) (mCons (mV 6) (mCons (mV 7) mNil))))) (gN 8))
  (mSeq (mAsg (mCall m_with_late (mCons (mV 1) (mCons (mV 3) (mCons (mV 6) (mCons (mV 7) mNil))))) (gN 9))
  (mSeq (mAsg (mIf (mB (mV 2)) (mCallK m_with_late [3, 2, 1, 0] mNil (mCons (mV 7) (mCons (mV 6) (mCons (mV 3) (mCons (mV 1) mNil))))) (mV 9)) (gN 10))
  (mSeq (mIte (mB (m2 neD (m1 reprD (mCons (mLst (mCons (mV 9) (mCons (mV 10) (mCons (mCall m_with_late (mCons (mV 1) (mCons (mV 3) (mCons (mV 6) (mCons (mNotV (mV 7)) mNil))))) mNil)))) mNil)) (m1 reprD (mCons (mLst (mCons (mV 8) (mCons (mV 8) (mCons (mCall m__law_turned (mCons (mV 1) (mCons (mV 3) (mCons (mV 6) (mCons (mNotV (mV 7)) mNil))))) mNil)))) mNil)))) (mRet (mC (.bl false))) mSkip)
  (mIte (mB (m2 neD (m1 reprD (mCons (mCall m_with_late (mCons (mV 9) (mCons (mV 3) (mCons (mV 6) (mCons (m2 ixD (m2 ixD (mV 5) (mV 6)) (mC (.int 4))) mNil))))) mNil)) (m1 reprD (mCons (mV 1) mNil)))) (mRet (mC (.bl false))) mSkip))))))))
  (mRet (mC (.bl true))))
theorem sc__law_are_late : FnScope ["deck", "agreement", "is_named", "house", "sorts", "rows", "k", "is_late", "due", "told", "named"] ["deck", "agreement", "is_named"] (defScope s__law_are_late) := ⟨rfl, rfl, rfl, by decide +kernel, rfl, by decide +kernel, by decide +kernel⟩
theorem ok__law_are_late {P : Program} {w : World} {K : PySem.W.Frag} {mg : Str → Option Value} {base : Heap} (B : Bt mg) (k_with_late : Kn P w K mg base 1 "with_late" s_with_late ["agreement", "house", "k", "late"] m_with_late) (k__law_draw : Kn P w K mg base 1 "_law_draw" s__law_draw ["deck", "many"] m__law_draw) (k__law_turned : Kn P w K mg base 1 "_law_turned" s__law_turned ["agreement", "house", "k", "is_late"] m__law_turned) {f : Addr} {fd : FuncData} (F : Fun K "_law_are_late" "_law_are_late" s__law_are_late f fd) : FnG P w K mg base 2 f fd ["deck", "agreement", "is_named"] m__law_are_late :=
  fn_g F sc__law_are_late rfl rfl fun cdv A outer s H hr => by
    have nd := sc__law_are_late.nd
    exact (dss_cons (ds_for [3, 4, 5] PassesOwn.never hr.calm (di_enum (by rfl) B.h_enumerate (da_cons (de_v 1) da_nil)) (dg_tup hr.calm (dgs_cons (dg_name [3, 4, 5] 3 nd rfl (by first | exact Or.inl rfl | exact Or.inr rfl) (by decide)) (dgs_cons (dg_tup hr.calm (dgs_cons (dg_name [3, 4, 5] 4 nd rfl (by first | exact Or.inl rfl | exact Or.inr rfl) (by decide)) (dgs_cons (dg_name [3, 4, 5] 5 nd rfl (by first | exact Or.inl rfl | exact Or.inr rfl) (by decide)) (dgs_nil [3, 4, 5])))) (dgs_nil [3, 4, 5])))) (dss_one (ds_for [6] PassesOwn.never hr.calm (di_r1 (by rfl) B.h_range (da_cons (de_len (by rfl) B.h_len (da_cons (de_v 5) da_nil)) da_nil)) (dg_name [6] 6 nd rfl (by first | exact Or.inl rfl | exact Or.inr rfl) (by decide)) (dss_cons (ds_set 7 nd rfl (by first | exact Or.inl rfl | exact Or.inr rfl) (de_eq hr (de_k k__law_draw hr (by decide) (by rfl) (da_cons (de_v 0) (da_cons (de_int) da_nil))) (de_int)))
    (dss_cons (ds_set 8 nd rfl (by first | exact Or.inl rfl | exact Or.inr rfl) (de_k k__law_turned hr (by decide) (by rfl) (da_cons (de_v 1) (da_cons (de_v 3) (da_cons (de_v 6) (da_cons (de_v 7) da_nil))))))
    (dss_cons (ds_set 9 nd rfl (by first | exact Or.inl rfl | exact Or.inr rfl) (de_k k_with_late hr (by decide) (by rfl) (da_cons (de_v 1) (da_cons (de_v 3) (da_cons (de_v 6) (da_cons (de_v 7) da_nil))))))
    (dss_cons (ds_set 10 nd rfl (by first | exact Or.inl rfl | exact Or.inr rfl) (de_if (dt_val (de_v 2)) (de_kk0 (perm := [3, 2, 1, 0]) k_with_late hr (by decide) (by rfl) ["late", "k", "house", "agreement"] (by decide) (fun _ _ _ _ _ _ us ws h1 h2 => match us, ws, h1, h2 with | [], [_, _, _, _], _, _ => rfl) (dk_cons (de_v 7) (dk_cons (de_v 6) (dk_cons (de_v 3) (dk_cons (de_v 1) dk_nil))))) (de_v 9)))
    (dss_cons (ds_if (dt_ne hr (de_repr hr (by rfl) B.h_repr (da_cons (de_lst (da_cons (de_v 9) (da_cons (de_v 10) (da_cons (de_k k_with_late hr (by decide) (by rfl) (da_cons (de_v 1) (da_cons (de_v 3) (da_cons (de_v 6) (da_cons (de_not (de_v 7)) da_nil))))) da_nil)))) da_nil)) (de_repr hr (by rfl) B.h_repr (da_cons (de_lst (da_cons (de_v 8) (da_cons (de_v 8) (da_cons (de_k k__law_turned hr (by decide) (by rfl) (da_cons (de_v 1) (da_cons (de_v 3) (da_cons (de_v 6) (da_cons (de_not (de_v 7)) da_nil))))) da_nil)))) da_nil))) (dss_one (ds_ret (de_bl))) dss_nil)
    (dss_one (ds_if (dt_ne hr (de_repr hr (by rfl) B.h_repr (da_cons (de_k k_with_late hr (by decide) (by rfl) (da_cons (de_v 9) (da_cons (de_v 3) (da_cons (de_v 6) (da_cons (de_ix hr (de_ix hr (de_v 5) (de_v 6)) (de_int)) da_nil))))) da_nil)) (de_repr hr (by rfl) B.h_repr (da_cons (de_v 1) da_nil))) (dss_one (ds_ret (de_bl))) dss_nil))))))))))
    (dss_one (ds_ret (de_bl))))
/-! ### law -/
def m_law : Fn := mkFn 1 5 (mSeq (mAsg (mCall m__law_deck (mCons (mV 0) mNil)) (gN 1))
  (mSeq (mFor (mR1 (mCons (mC (.int 7)) mNil)) (gN 2) (mSeq (mAsg (mCall m__law_agreement (mCons (mV 1) mNil)) (gN 3))
  (mSeq (mAsg (m1 reprD (mCons (mV 3) mNil)) (gN 4))
  (mSeq (mIte (mOr (mNot (mB (mCall m__law_are_kinds (mCons (mV 3) (mCons (m2 eqD (mV 2) (mC (.int 0))) mNil))))) (mNot (mB (mCall m__law_are_late (mCons (mV 1) (mCons (mV 3) (mCons (m2 ltD (mV 2) (mC (.int 2))) mNil))))))) (mRet (mC (.bl false))) mSkip)
  (mIte (mB (m2 neD (m1 reprD (mCons (mV 3) mNil)) (mV 4))) (mRet (mC (.bl false))) mSkip)))))
  (mRet (mC (.bl true)))))
theorem sc_law : FnScope ["script", "deck", "turn", "agreement", "known"] ["script"] (defScope s_law) := ⟨rfl, rfl, rfl, by decide +kernel, rfl, by decide +kernel, by decide +kernel⟩
theorem ok_law {P : Program} {w : World} {K : PySem.W.Frag} {mg : Str → Option Value} {base : Heap} (B : Bt mg) (k__law_deck : Kn P w K mg base 1 "_law_deck" s__law_deck ["script"] m__law_deck) (k__law_agreement : Kn P w K mg base 5 "_law_agreement" s__law_agreement ["deck"] m__law_agreement) (k__law_are_kinds : Kn P w K mg base 2 "_law_are_kinds" s__law_are_kinds ["agreement", "is_named"] m__law_are_kinds) (k__law_are_late : Kn P w K mg base 2 "_law_are_late" s__law_are_late ["deck", "agreement", "is_named"] m__law_are_late) {f : Addr} {fd : FuncData} (F : Fun K "law" "law" s_law f fd) : FnG P w K mg base 6 f fd ["script"] m_law :=
  fn_g F sc_law rfl rfl fun cdv A outer s H hr => by
    have nd := sc_law.nd
    exact (dss_cons (ds_set 1 nd rfl (by first | exact Or.inl rfl | exact Or.inr rfl) (de_k k__law_deck hr (by decide) (by rfl) (da_cons (de_v 0) da_nil)))
    (dss_cons (ds_for [2] PassesOwn.never hr.calm (di_r1 (by rfl) B.h_range (da_cons (de_int) da_nil)) (dg_name [2] 2 nd rfl (by first | exact Or.inl rfl | exact Or.inr rfl) (by decide)) (dss_cons (ds_set 3 nd rfl (by first | exact Or.inl rfl | exact Or.inr rfl) (de_k k__law_agreement hr (by decide) (by rfl) (da_cons (de_v 1) da_nil)))
    (dss_cons (ds_set 4 nd rfl (by first | exact Or.inl rfl | exact Or.inr rfl) (de_repr hr (by rfl) B.h_repr (da_cons (de_v 3) da_nil)))
    (dss_cons (ds_if (dt_w (dw_or (dt_not (dt_val (de_k k__law_are_kinds hr (by decide) (by rfl) (da_cons (de_v 3) (da_cons (de_eq hr (de_v 2) (de_int)) da_nil))))) (dw_or1 (dt_not (dt_val (de_k k__law_are_late hr (by decide) (by rfl) (da_cons (de_v 1) (da_cons (de_v 3) (da_cons (de_lt (de_v 2) (de_int)) da_nil))))))))) (dss_one (ds_ret (de_bl))) dss_nil)
    (dss_one (ds_if (dt_ne hr (de_repr hr (by rfl) B.h_repr (da_cons (de_v 3) da_nil)) (de_v 4)) (dss_one (ds_ret (de_bl))) dss_nil))))))
    (dss_one (ds_ret (de_bl)))))
/-! ### all that stands at the top -/
theorem all_mk {l : PySem.W.OpenLaw} {w : World} {K : PySem.W.Frag} {h : Heap} {mg : Str → Option Value} {fa : Addr} (X : K.In h) (G : h.Ns mainGlobals mg) (hfa : mg "law" = some (.ref fa))
    (a_kind : ∃ f fd, At K "kind" s_kind f fd)
    (a_with_late : ∃ f fd, At K "with_late" s_with_late f fd)
    (a__law_deck : ∃ f fd, At K "_law_deck" s__law_deck f fd)
    (a__law_draw : ∃ f fd, At K "_law_draw" s__law_draw f fd)
    (a__law_pick : ∃ f fd, At K "_law_pick" s__law_pick f fd)
    (a__law_leads : ∃ f fd, At K "_law_leads" s__law_leads f fd)
    (a__law_pairs : ∃ f fd, At K "_law_pairs" s__law_pairs f fd)
    (a__law_book : ∃ f fd, At K "_law_book" s__law_book f fd)
    (a__law_asking : ∃ f fd, At K "_law_asking" s__law_asking f fd)
    (a__law_agreement : ∃ f fd, At K "_law_agreement" s__law_agreement f fd)
    (a__law_turned : ∃ f fd, At K "_law_turned" s__law_turned f fd)
    (a__law_are_kinds : ∃ f fd, At K "_law_are_kinds" s__law_are_kinds f fd)
    (a__law_are_late : ∃ f fd, At K "_law_are_late" s__law_are_late f fd)
    (a_law : ∃ f fd, At K "law" s_law f fd)
    (z_abs : PySem.W.nsIn K mainGlobals "abs" = some none)
    (z_enumerate : PySem.W.nsIn K mainGlobals "enumerate" = some none)
    (z_int : PySem.W.nsIn K mainGlobals "int" = some none)
    (z_len : PySem.W.nsIn K mainGlobals "len" = some none)
    (z_list : PySem.W.nsIn K mainGlobals "list" = some none)
    (z_range : PySem.W.nsIn K mainGlobals "range" = some none)
    (z_repr : PySem.W.nsIn K mainGlobals "repr" = some none)
    (z_sorted : PySem.W.nsIn K mainGlobals "sorted" = some none)
    (z_tuple : PySem.W.nsIn K mainGlobals "tuple" = some none)
    : ∃ fd : FuncData, (∀ (s : Shared) (v : Value), BindsTo s fd ⟨[v], []⟩ [("script", v)]) ∧ ∀ base : Heap, K.In base → base.Ns mainGlobals mg → FnG l.prog w K mg base 6 fa fd ["script"] m_law := by
  have B : Bt mg := ⟨PySem.W.mg_none_of X G z_abs, PySem.W.mg_none_of X G z_enumerate, PySem.W.mg_none_of X G z_int, PySem.W.mg_none_of X G z_len, PySem.W.mg_none_of X G z_list, PySem.W.mg_none_of X G z_range, PySem.W.mg_none_of X G z_repr, PySem.W.mg_none_of X G z_sorted, PySem.W.mg_none_of X G z_tuple⟩
  obtain ⟨f0, fd0, at0⟩ := a_law
  have e := hfa.symm.trans (PySem.W.mg_of X G at0.ns)
  cases e
  have F0 := at0.fn
  obtain ⟨oc, od, kV, doc, pm, an, cdv, ct, osl, rfl, lk, hcd⟩ := F0.ex
  refine ⟨PySem.W.fnOf "law" "law" (defArgs s_law) (defBody s_law) (defScope s_law) .none kV doc pm an cdv ct, fun s v => .of_eq rfl, fun base _ _ => ?_⟩
  have k__law_deck : Kn l.prog w K mg base 1 "_law_deck" s__law_deck ["script"] m__law_deck := kn_of X G a__law_deck (fun _ _ _ _ _ _ us hl => match us, hl with | [_], _ => rfl) fun f fd F => ok__law_deck B F
  have k__law_draw : Kn l.prog w K mg base 1 "_law_draw" s__law_draw ["deck", "many"] m__law_draw := kn_of X G a__law_draw (fun _ _ _ _ _ _ us hl => match us, hl with | [_, _], _ => rfl) fun f fd F => ok__law_draw B F
  have k__law_pick : Kn l.prog w K mg base 2 "_law_pick" s__law_pick ["deck", "items"] m__law_pick := kn_of X G a__law_pick (fun _ _ _ _ _ _ us hl => match us, hl with | [_, _], _ => rfl) fun f fd F => ok__law_pick B k__law_draw F
  have k__law_leads : Kn l.prog w K mg base 1 "_law_leads" s__law_leads ["one", "other"] m__law_leads := kn_of X G a__law_leads (fun _ _ _ _ _ _ us hl => match us, hl with | [_, _], _ => rfl) fun f fd F => ok__law_leads B F
  have k__law_pairs : Kn l.prog w K mg base 3 "_law_pairs" s__law_pairs ["deck", "n", "house", "most"] m__law_pairs := kn_of X G a__law_pairs (fun _ _ _ _ _ _ us hl => match us, hl with | [_, _, _, _], _ => rfl) fun f fd F => ok__law_pairs B k__law_draw k__law_pick F
  have k__law_book : Kn l.prog w K mg base 4 "_law_book" s__law_book ["deck", "n", "house", "most"] m__law_book := kn_of X G a__law_book (fun _ _ _ _ _ _ us hl => match us, hl with | [_, _, _, _], _ => rfl) fun f fd F => ok__law_book B k__law_draw k__law_pick k__law_leads k__law_pairs F
  have k__law_asking : Kn l.prog w K mg base 2 "_law_asking" s__law_asking ["deck", "n", "last"] m__law_asking := kn_of X G a__law_asking (fun _ _ _ _ _ _ us hl => match us, hl with | [_, _, _], _ => rfl) fun f fd F => ok__law_asking B k__law_draw F
  have k__law_agreement : Kn l.prog w K mg base 5 "_law_agreement" s__law_agreement ["deck"] m__law_agreement := kn_of X G a__law_agreement (fun _ _ _ _ _ _ us hl => match us, hl with | [_], _ => rfl) fun f fd F => ok__law_agreement B k__law_draw k__law_pick k__law_book k__law_asking F
  have k_kind : Kn l.prog w K mg base 1 "kind" s_kind ["agreement", "house", "state"] m_kind := kn_of X G a_kind (fun _ _ _ _ _ _ us hl => match us, hl with | [_, _, _], _ => rfl) fun f fd F => ok_kind B F
  have k__law_are_kinds : Kn l.prog w K mg base 2 "_law_are_kinds" s__law_are_kinds ["agreement", "is_named"] m__law_are_kinds := kn_of X G a__law_are_kinds (fun _ _ _ _ _ _ us hl => match us, hl with | [_, _], _ => rfl) fun f fd F => ok__law_are_kinds B k_kind F
  have k_with_late : Kn l.prog w K mg base 1 "with_late" s_with_late ["agreement", "house", "k", "late"] m_with_late := kn_of X G a_with_late (fun _ _ _ _ _ _ us hl => match us, hl with | [_, _, _, _], _ => rfl) fun f fd F => ok_with_late B F
  have k__law_turned : Kn l.prog w K mg base 1 "_law_turned" s__law_turned ["agreement", "house", "k", "is_late"] m__law_turned := kn_of X G a__law_turned (fun _ _ _ _ _ _ us hl => match us, hl with | [_, _, _, _], _ => rfl) fun f fd F => ok__law_turned B F
  have k__law_are_late : Kn l.prog w K mg base 2 "_law_are_late" s__law_are_late ["deck", "agreement", "is_named"] m__law_are_late := kn_of X G a__law_are_late (fun _ _ _ _ _ _ us hl => match us, hl with | [_, _, _], _ => rfl) fun f fd F => ok__law_are_late B k_with_late k__law_draw k__law_turned F
  exact ok_law B k__law_deck k__law_agreement k__law_are_kinds k__law_are_late F0
end K04

namespace DD
open PySem L2
/-- what stood stays -/
structure Old (S S' : Sto) : Prop where
  len : S.length ≤ S'.length
  keep : ∀ i, i < S.length → S'[i]? = S[i]?
theorem Old.refl (S : Sto) : Old S S := ⟨Nat.le_refl _, fun _ _ => rfl⟩
theorem Old.trans {S S1 S2 : Sto} (a : Old S S1) (b : Old S1 S2) : Old S S2 := ⟨Nat.le_trans a.len b.len, fun i h => (b.keep i (Nat.lt_of_lt_of_le h a.len)).trans (a.keep i h)⟩
theorem Old.app {S : Sto} (T : Sto) : Old S (S ++ T) := ⟨by simp, fun i h => List.getElem?_append_left h⟩
theorem Old.setNew {S S2 : Sto} (f : Old S S2) {i : Nat} (h : S.length ≤ i) (c : Cell) : Old S (S2.set i c) := ⟨by rw [List.length_set]; exact f.len, fun j h1 => (set_get_ne (by omega)).trans (f.keep j h1)⟩
theorem Old.get {S S' : Sto} (f : Old S S') {i : Nat} {c : Cell} (h : S[i]? = some c) : S'[i]? = some c := (f.keep i (lt_of_get h)).trans h
theorem Old.fr {dk l : Nat} {S S' : Sto} (f : Old S S') : Fr dk l S S' := ⟨f.len, fun i h _ _ => f.keep i h⟩
theorem Deck.old {S S' : Sto} {dk l : Nat} (d : Deck S dk l) (f : Old S S') : Deck S' dk l := by
  obtain ⟨s, h1, h2⟩ := d.at_
  obtain ⟨ws, h3, h4⟩ := d.deep
  exact ⟨⟨s, f.get h1, h2⟩, ⟨ws, f.get h3, h4⟩, d.ne⟩
theorem cut_take (xs : List D) (i : Nat) : cutD xs none (some (i : Int)) = xs.take i := by
  unfold cutD
  rw [HT.sIx_none, HT.sIx_nat, List.drop_zero, Nat.sub_zero]
  by_cases h : i ≤ xs.length
  · rw [Nat.min_eq_left h]
  · rw [Nat.min_eq_right (by omega), List.take_of_length_le (Nat.le_refl _), List.take_of_length_le (by omega)]
theorem cut_drop (xs : List D) (i : Nat) : cutD xs (some (i : Int)) none = xs.drop i := by
  unfold cutD
  rw [HT.sIx_none, HT.sIx_nat]
  by_cases h : i ≤ xs.length
  · rw [Nat.min_eq_left h]
    exact List.take_of_length_le (by simp)
  · rw [Nat.min_eq_right (by omega), List.drop_of_length_le (Nat.le_refl _), List.drop_of_length_le (by omega)]
    simp
theorem cut_drop1 (xs : List D) (i : Nat) : cutD xs (some ((i : Int) + 1)) none = xs.drop (i + 1) := by
  rw [show ((i : Int) + 1) = ((i + 1 : Nat) : Int) by omega, cut_drop]
theorem numL_item {ds : List D} {n : Nat} {d : D} (h : d ∈ numL n ds) : ∃ i e, d = .tup [.int ((n + i : Nat) : Int), e] ∧ ds[i]? = some e := by
  obtain ⟨i, hi, e⟩ := List.getElem_of_mem h
  have q : (numL n ds)[i]? = some d := by rw [List.getElem?_eq_getElem hi, e]
  obtain ⟨e', h1, h2⟩ := numL_get _ _ _ _ q
  exact ⟨i, e', h2, h1⟩
theorem numL_map {f : D → D} {g : Nat → D → D} : ∀ (ds : List D) (n : Nat), (∀ i d, ds[i]? = some d → f (.tup [.int ((n + i : Nat) : Int), d]) = g i d) → (numL n ds).map f = ds.mapIdx g
  | [], _, _ => rfl
  | d :: ds, n, h => by
    have h0 : f (.tup [.int (n : Int), d]) = g 0 d := h 0 d rfl
    rw [show numL n (d :: ds) = .tup [.int n, d] :: numL (n + 1) ds from rfl, List.map_cons, List.mapIdx_cons, h0, numL_map ds (n + 1) (g := fun i => g (i + 1)) fun i e q => by
      have := h (i + 1) e (by simpa using q)
      rw [← this]
      congr 4
      omega]
theorem mapIdx_set {ds : List D} {k : Nat} {x : D} : (ds.mapIdx fun i d => if i = k then x else d) = ds.set k x := by
  apply List.ext_getElem?
  intro i
  rw [List.getElem?_mapIdx, List.getElem?_set]
  by_cases h : k = i
  · subst h
    by_cases q : k < ds.length
    · simp [q]
    · simp [q, List.getElem?_eq_none (Nat.le_of_not_lt q)]
  · rw [if_neg h]
    cases ds[i]? with
    | none => rfl
    | some d => simp [Ne.symm h]
theorem set_cut {ds : List D} {k : Nat} {x : D} (h : k < ds.length) : ds.take k ++ ([x] ++ ds.drop (k + 1)) = ds.set k x := by
  rw [List.set_eq_take_append_cons_drop, if_pos h]
  rfl
end DD
namespace K04
open PySem L2 DD
theorem e_draw : m__law_draw = F_draw := rfl
theorem e_deck : m__law_deck = F_deck 1504 := rfl
theorem e_agreement : m__law_agreement = F_agreement := rfl
/-- a sort told -/
theorem kind_ok {S : Sto} {bs ks : List D} {r d : D} {h j : Nat} (hb : bs[h]? = some (.tup [.tup ks, r])) (hk : ks[j]? = some d) : m_kind [.tup bs, .int h, .int j] S = some (d, S) := by
  have : wO (m_kind [.tup bs, .int h, .int j] S) fun p => p = (d, S) := by
    refine w_fn rfl ?_
    simp [atI_nat hb, atI_nat hk, show atI [D.tup ks, r] 0 = some (.tup ks) from rfl]
  obtain ⟨p, h1, h2⟩ := this
  rw [h1, h2]
abbrev late4 (a b c d : D) (x : Bool) : D := .tup [a, b, c, d, .bl x]
abbrev turnedL (bs : List D) (ks rs : List D) (row : D) (h k : Nat) : List D := bs.set h (.tup [.tup ks, .tup (rs.set k row)])
theorem with_late_ok {S : Sto} {bs ks rs : List D} {a b c d y : D} {h k : Nat} {x : Bool} (hb : bs[h]? = some (.tup [.tup ks, .tup rs])) (hk : rs[k]? = some (.tup [a, b, c, d, y])) (hl : bs.length ≤ 100) (hr : rs.length ≤ 100) :
    m_with_late [.tup bs, .int h, .int k, .bl x] S = some (.tup (turnedL bs ks rs (late4 a b c d x) h k), S) := by
  have : wO (m_with_late [.tup bs, .int h, .int k, .bl x] S) fun p => p = (.tup (turnedL bs ks rs (late4 a b c d x) h k), S) := by
    have nat : sizeLine = 16777216 := by decide
    have h1 := lt_of_get hb
    have k1 := lt_of_get hk
    have c4 : cutD [a, b, c, d, y] none (some 4) = [a, b, c, d] := rfl
    refine w_fn rfl ?_
    simp [atI_nat hb, atI_nat hk, c4, cut_take, cut_drop1, nat]
    refine ⟨fun _ => ⟨fun _ => ⟨fun _ => ⟨fun _ => ?_, by omega⟩, by omega⟩, by omega⟩, by omega⟩
    unfold turnedL
    rw [← set_cut h1, ← set_cut k1]
    rfl
  obtain ⟨p, h1, h2⟩ := this
  rw [h1, h2]
def Row5 (d : D) : Prop := ∃ a b c e f, d = .tup [a, b, c, e, f]
def Bk (d : D) : Prop := ∃ ks rs, d = .tup [.tup ks, .tup rs] ∧ rs.length ≤ 100 ∧ ∀ r ∈ rs, Row5 r
def rowT (b : Bool) (k : Nat) (x : Bool) (i : Nat) (d : D) : D := match d with
  | .tup [a, t, c, e, f] => if b = true ∧ i = k then .tup [a, t, c, e, .bl x] else .tup [a, t, c, e, f]
  | d => d
def bookT (h k : Nat) (x : Bool) (i : Nat) (d : D) : D := match d with
  | .tup [.tup ks, .tup rs] => .tup [.tup ks, .tup (rs.mapIdx (rowT (decide (i = h)) k x))]
  | d => d
theorem mapIdx_id {ds : List D} {g : Nat → D → D} (h : ∀ i, ∀ d ∈ ds, g i d = d) : ds.mapIdx g = ds := by
  apply List.ext_getElem?
  intro i
  rw [List.getElem?_mapIdx]
  cases q : ds[i]? with
  | none => rfl
  | some d => rw [Option.map_some, h i d (List.mem_of_getElem? q)]
theorem mapIdx_ext {ds : List D} {g g' : Nat → D → D} (h : ∀ i d, ds[i]? = some d → g i d = g' i d) : ds.mapIdx g = ds.mapIdx g' := by
  apply List.ext_getElem?
  intro i
  rw [List.getElem?_mapIdx, List.getElem?_mapIdx]
  cases q : ds[i]? with
  | none => rfl
  | some d => rw [Option.map_some, Option.map_some, h i d q]
theorem bookT_set {bs ks rs : List D} {a b c d y : D} {h k : Nat} {x : Bool} (hb : bs[h]? = some (.tup [.tup ks, .tup rs])) (hk : rs[k]? = some (.tup [a, b, c, d, y])) (hB : ∀ b ∈ bs, Bk b) :
    bs.mapIdx (bookT h k x) = turnedL bs ks rs (late4 a b c d x) h k := by
  unfold turnedL
  rw [← mapIdx_set]
  refine mapIdx_ext fun i e q => ?_
  obtain ⟨ks', rs', rfl, _, hr⟩ := hB e (List.mem_of_getElem? q)
  by_cases e : i = h
  · subst e
    rw [hb] at q
    cases q
    rw [if_pos rfl]
    show D.tup [.tup ks, .tup (rs.mapIdx (rowT (decide (i = i)) k x))] = _
    rw [← mapIdx_set]
    congr 4
    refine mapIdx_ext fun j e q => ?_
    obtain ⟨a', b', c', d', f', rfl⟩ := hr e (List.mem_of_getElem? q)
    by_cases z : j = k
    · subst z
      rw [hk] at q
      cases q
      simp [rowT]
    · simp [rowT, z]
  · rw [if_neg e]
    show D.tup [.tup ks', .tup (rs'.mapIdx (rowT (decide (i = h)) k x))] = _
    rw [mapIdx_id]
    intro j d hd
    obtain ⟨a', b', c', d', f', rfl⟩ := hr d hd
    simp [rowT, e]
theorem mapIdx_take {ds : List D} {g : Nat → D → D} {i : Nat} {d : D} (h : ds[i]? = some d) : (ds.mapIdx g).take (i + 1) = (ds.mapIdx g).take i ++ [g i d] := by
  rw [List.take_add_one, List.getElem?_mapIdx, h]
  rfl
theorem drop_cons {α : Type} {L : List α} {d : α} {ds : List α} {n : Nat} (h : d :: ds = L.drop n) : L[n]? = some d ∧ ds = L.drop (n + 1) := by
  refine ⟨?_, ?_⟩
  · have : (L.drop n)[0]? = some d := by rw [← h]; rfl
    simpa using this
  · rw [← List.tail_drop, ← h]; rfl
theorem turned_ok {S : Sto} {bs : List D} {h k : Nat} {x : Bool} (hB : ∀ b ∈ bs, Bk b) (hl : bs.length ≤ 100) :
    wO (m__law_turned [.tup bs, .int h, .int k, .bl x] S) fun p => p.1 = .tup (bs.mapIdx (bookT h k x)) ∧ Old S p.2 := by
  have nat : sizeLine = 16777216 := by decide
  refine w_fn rfl ?_
  have ei : ∀ ds, enumI (.tup ds) (S ++ [Cell.lst []]) = some (numL 0 ds, fun _ => true, S ++ [Cell.lst []]) := fun _ => rfl
  simp [ei]
  refine for_w (fun ds ρ S1 => (∃ y1 y2 y3 y4 y5 y6 y7 y8 y9 y10, ρ = [some (.tup bs), some (.int h), some (.int k), some (.bl x), some (.loc S.length), y1, y2, y3, y4, y5, y6, y7, y8, y9, y10]) ∧ Old S S1 ∧ ∃ n, n ≤ bs.length ∧ ds = (numL 0 bs).drop n ∧ S1[S.length]? = some (.lst ((bs.mapIdx (bookT h k x)).take n)))
      (fun _ _ => False) (fun _ _ => False) (fun _ _ _ _ => rfl) ?_ ?_ (fun _ _ h => h.elim) (fun _ _ h => h.elim) _ _ _ ?_
  · rintro d ds ρ S1 ⟨⟨y1, y2, y3, y4, y5, y6, y7, y8, y9, y10, rfl⟩, o1, n, hn, hd, c1⟩
    obtain ⟨g1, g2⟩ := drop_cons hd
    obtain ⟨e, g3, rfl⟩ := numL_get _ _ _ _ g1
    obtain ⟨ks, rs, rfl, hrl, hr⟩ := hB e (List.mem_of_getElem? g3)
    have nl := lt_of_get g3
    have s1 := lt_of_get c1
    have ei : ∀ ds, enumI (.tup ds) (S1 ++ [Cell.lst []]) = some (numL 0 ds, fun _ => true, S1 ++ [Cell.lst []]) := fun _ => rfl
    simp [ei]
    refine for_w (fun ds' ρ S2 => (∃ y7 y8 y9 y10 y11 y12, ρ = [some (.tup bs), some (.int h), some (.int k), some (.bl x), some (.loc S.length), some (.int n), some (.tup ks), some (.tup rs), some (.loc S1.length), y7, y8, y9, y10, y11, y12]) ∧ Old S S2 ∧ S2[S.length]? = some (.lst ((bs.mapIdx (bookT h k x)).take n)) ∧ ∃ m, m ≤ rs.length ∧ ds' = (numL 0 rs).drop m ∧ S2[S1.length]? = some (.lst ((rs.mapIdx (rowT (decide (n = h)) k x)).take m)))
      (fun _ _ => False) (fun _ _ => False) (fun _ _ _ _ => rfl) ?_ ?_ (fun _ _ h => h.elim) (fun _ _ h => h.elim) _ _ _ ?_
    · rintro d' ds' ρ S2 ⟨⟨y7, y8, y9, y10, y11, y12, rfl⟩, o2, c2, m, hm, hd', f2⟩
      obtain ⟨g1', g2'⟩ := drop_cons hd'
      obtain ⟨e', g3', rfl⟩ := numL_get _ _ _ _ g1'
      obtain ⟨a, b, c, d, f, rfl⟩ := hr e' (List.mem_of_getElem? g3')
      have ml := lt_of_get g3'
      simp [lst_loc f2, eq_pair]
      have fin : ∀ z, z = rowT (decide (n = h)) k x m (.tup [a, b, c, d, f]) → wO (appD (.loc S1.length) z S2) fun p =>
          Old S p.2 ∧ p.2[S.length]? = some (.lst ((bs.mapIdx (bookT h k x)).take n)) ∧ ∃ m, m ≤ rs.length ∧ ds' = (numL 0 rs).drop m ∧ p.2[S1.length]? = some (.lst ((rs.mapIdx (rowT (decide (n = h)) k x)).take m)) := by
        rintro z rfl
        rw [app_loc f2 (by rw [List.length_take]; simp; omega), wO_some]
        have lf := o1.len
        exact ⟨o2.setNew lf _, (set_get_ne (by omega)).trans c2, m + 1, ml, g2', by rw [mapIdx_take g3']; exact set_get_eq f2⟩
      by_cases z : n = h ∧ m = k
      · exact .inr ⟨by omega, fin _ (by simp [rowT, z])⟩
      · exact .inl ⟨by omega, fin _ (by simp [rowT, z])⟩
    · rintro ρ S2 ⟨⟨y7, y8, y9, y10, y11, y12, rfl⟩, o2, c2, m, hm, hd', f2⟩
      have hm2 : rs.length ≤ m := by
        have := congrArg List.length hd'
        rw [List.length_drop, numL_len] at this
        simp at this
        omega
      rw [List.take_of_length_le (by simpa using hm2)] at f2
      simp [lst_loc c2, tup_loc f2]
      rw [app_loc c2 (by rw [List.length_take]; simp; omega), wO_some]
      exact ⟨o2.setNew (Nat.le_refl _) _, n + 1, nl, g2, by rw [mapIdx_take g3]; exact set_get_eq c2⟩
    · refine ⟨⟨_, _, _, _, _, _, rfl⟩, o1.trans (Old.app _), (Old.app _).get c1, 0, Nat.zero_le _, rfl, by simp⟩
  · rintro ρ S1 ⟨⟨y1, y2, y3, y4, y5, y6, y7, y8, y9, y10, rfl⟩, o1, n, hn, hd, c1⟩
    have hn2 : bs.length ≤ n := by
      have := congrArg List.length hd
      rw [List.length_drop, numL_len] at this
      simp at this
      omega
    rw [List.take_of_length_le (by simpa using hn2)] at c1
    simp [tup_loc c1]
    exact o1
  · exact ⟨⟨_, _, _, _, _, _, _, _, _, _, rfl⟩, Old.app _, 0, Nat.zero_le _, rfl, by simp⟩
end K04

namespace K04
open PySem L2 DD
theorem isRow5 {d : D} (h : IsRow d) : Row5 d := by
  obtain ⟨a, ps, b, qs, c, rfl, _⟩ := h
  exact ⟨_, _, _, _, _, rfl⟩
theorem isBk {d : D} (h : IsBook d) : Bk d := by
  obtain ⟨ks, rs, rfl, _, _, hl, hr⟩ := h
  exact ⟨ks, rs, rfl, by omega, fun r q => isRow5 (hr r q)⟩
theorem are_kinds_ok {S : Sto} {bs : List D} {b : Bool} (hA : ∀ b ∈ bs, IsBook b) : wO (m__law_are_kinds [.tup bs, .bl b] S) fun p => p.1 = .bl true ∧ Old S p.2 := by
  refine w_fn rfl ?_
  have ei : ∀ ds S, enumI (.tup ds) S = some (numL 0 ds, fun _ => true, S) := fun _ _ => rfl
  simp [ei]
  refine for_w (fun ds ρ S1 => (∃ y1 y2 y3 y4 y5 y6, ρ = [some (.tup bs), some (.bl b), y1, y2, y3, y4, y5, y6]) ∧ (∀ d ∈ ds, d ∈ numL 0 bs) ∧ Old S S1)
      (fun _ _ => False) (fun _ _ => False) (fun _ _ _ _ => rfl) ?_ ?_ (fun _ _ h => h.elim) (fun _ _ h => h.elim) _ _ _ ?_
  · rintro d ds ρ S1 ⟨⟨y1, y2, y3, y4, y5, y6, rfl⟩, hd, o1⟩
    obtain ⟨n, e, rfl, g3⟩ := numL_item (hd d (by simp))
    obtain ⟨ks, rs, rfl, hkl, hk, hrl, hr⟩ := hA e (List.mem_of_getElem? g3)
    have hd' : ∀ d ∈ ds, d ∈ numL 0 bs := fun d q => hd d (by simp [q])
    simp [ei]
    refine for_w (fun ds' ρ S2 => (∃ y4 y5 y6, ρ = [some (.tup bs), some (.bl b), some (.int n), some (.tup ks), some (.tup rs), y4, y5, y6]) ∧ (∀ d ∈ ds', d ∈ numL 0 ks) ∧ Old S S2)
      (fun _ _ => False) (fun _ _ => False) (fun _ _ _ _ => rfl) ?_ ?_ (fun _ _ h => h.elim) (fun _ _ h => h.elim) _ _ _ ?_
    · rintro d' ds' ρ S2 ⟨⟨y4, y5, y6, rfl⟩, hk', o2⟩
      obtain ⟨j, e', rfl, g3'⟩ := numL_item (hk' d' (by simp))
      have ki : ∀ S, m_kind [.tup bs, .int n, .int j] S = some (e', S) := fun S => kind_ok g3 g3'
      have dt : DatL 1 10 [e', e'] := (DatL.cons (dat_sort (hk e' (List.mem_of_getElem? g3'))) (DatL.cons (dat_sort (hk e' (List.mem_of_getElem? g3'))) DatL.nil)).up (Nat.le_refl _) (by omega)
      obtain ⟨z, hz⟩ := repr_lst dt (by omega) (by omega)
      have z1 : reprD (.loc S2.length) (S2 ++ [.lst [e', e']]) = some (.str z, S2 ++ [.lst [e', e']]) := hz _ _ (by simp)
      have z2 : reprD (.loc (S2.length + 1)) (S2 ++ [.lst [e', e'], .lst [e', e']]) = some (.str z, S2 ++ [.lst [e', e'], .lst [e', e']]) := hz _ _ (by simp)
      cases b <;> simp [ki, z1, z2] <;> exact ⟨fun d q => hk' d (by simp [q]), o2.trans (Old.app _)⟩
    · rintro ρ S2 ⟨⟨y4, y5, y6, rfl⟩, hk', o2⟩
      exact ⟨⟨_, _, _, _, _, _, rfl⟩, hd', o2⟩
    · refine ⟨⟨_, _, _, by simp; exact ⟨rfl, rfl, rfl⟩⟩, fun d q => q, o1⟩
  · rintro ρ S1 ⟨⟨y1, y2, y3, y4, y5, y6, rfl⟩, hd, o1⟩
    simp
    exact o1
  · exact ⟨⟨_, _, _, _, _, _, rfl⟩, fun d q => q, Old.refl _⟩
theorem turned_agr {bs ks rs : List D} {a b : Int} {ps qs : List D} {c : Bool} {h k : Nat} {x : Bool} (hA : IsAgr (.tup bs)) (hb : bs[h]? = some (.tup [.tup ks, .tup rs])) (hk : rs[k]? = some (.tup [.int a, .tup ps, .int b, .tup qs, .bl c])) :
    IsAgr (.tup (turnedL bs ks rs (late4 (.int a) (.tup ps) (.int b) (.tup qs) x) h k)) := by
  obtain ⟨bs', e, hl, hB⟩ := hA
  cases e
  refine ⟨_, rfl, by rw [List.length_set]; exact hl, fun d hd => ?_⟩
  rcases List.mem_or_eq_of_mem_set hd with q | rfl
  · exact hB d q
  obtain ⟨ks', rs', e, h1, h2, h3, h4⟩ := hB _ (List.mem_of_getElem? hb)
  cases e
  refine ⟨ks, _, rfl, h1, h2, by rw [List.length_set]; exact h3, fun r hr => ?_⟩
  rcases List.mem_or_eq_of_mem_set hr with q | rfl
  · exact h4 r q
  obtain ⟨a', ps', b', qs', c', e, r⟩ := h4 _ (List.mem_of_getElem? hk)
  cases e
  exact ⟨a, ps, b, qs, x, rfl, r⟩
theorem set_same {α : Type} {l : List α} {i : Nat} {x : α} (h : l[i]? = some x) : l.set i x = l := by
  apply List.ext_getElem?
  intro j
  rw [List.getElem?_set]
  by_cases q : i = j
  · subst q
    rw [if_pos rfl, if_pos (lt_of_get h), h]
  · rw [if_neg q]
theorem are_late_ok {S : Sto} {dk l : Nat} {bs : List D} {b : Bool} (hA : IsAgr (.tup bs)) (hd : Deck S dk l) : wO (m__law_are_late [.loc dk, .tup bs, .bl b] S) fun p => p.1 = .bl true ∧ Deck p.2 dk l ∧ Fr dk l S p.2 := by
  refine w_fn rfl ?_
  have hA' := hA
  obtain ⟨bs', e, hbl, hB⟩ := hA
  cases e
  have hBk : ∀ b ∈ bs, Bk b := fun b q => isBk (hB b q)
  have ei : ∀ ds S, enumI (.tup ds) S = some (numL 0 ds, fun _ => true, S) := fun _ _ => rfl
  rw [e_draw]
  simp [ei]
  refine for_w (fun ds ρ S1 => (∃ y1 y2 y3 y4 y5 y6 y7 y8, ρ = [some (.loc dk), some (.tup bs), some (.bl b), y1, y2, y3, y4, y5, y6, y7, y8]) ∧ (∀ d ∈ ds, d ∈ numL 0 bs) ∧ Deck S1 dk l ∧ Fr dk l S S1)
      (fun _ _ => False) (fun _ _ => False) (fun _ _ _ _ => rfl) ?_ ?_ (fun _ _ h => h.elim) (fun _ _ h => h.elim) _ _ _ ?_
  · rintro d ds ρ S1 ⟨⟨y1, y2, y3, y4, y5, y6, y7, y8, rfl⟩, hdd, d1, f1⟩
    obtain ⟨n, e, rfl, g3⟩ := numL_item (hdd d (by simp))
    obtain ⟨ks, rs, rfl, hkl, hk, hrl, hr⟩ := hB e (List.mem_of_getElem? g3)
    have hd' : ∀ d ∈ ds, d ∈ numL 0 bs := fun d q => hdd d (by simp [q])
    have rg : rngOk (rs.length : Int) = true := by unfold rngOk; simp; omega
    simp [rg]
    refine for_w (fun ds' ρ S2 => (∃ y4 y5 y6 y7 y8, ρ = [some (.loc dk), some (.tup bs), some (.bl b), some (.int n), some (.tup ks), some (.tup rs), y4, y5, y6, y7, y8]) ∧ (∀ d ∈ ds', ∃ k : Nat, d = .int k ∧ k < rs.length) ∧ Deck S2 dk l ∧ Fr dk l S S2)
      (fun _ _ => False) (fun _ _ => False) (fun _ _ _ _ => rfl) ?_ ?_ (fun _ _ h => h.elim) (fun _ _ h => h.elim) _ _ _ ?_
    · rintro d' ds' ρ S2 ⟨⟨y4, y5, y6, y7, y8, rfl⟩, hk', d2, f2⟩
      obtain ⟨k, rfl, kl⟩ := hk' d' (by simp)
      have hk2 : ∀ d ∈ ds', ∃ k : Nat, d = .int k ∧ k < rs.length := fun d q => hk' d (by simp [q])
      have gk : rs[k]? = some rs[k] := List.getElem?_eq_getElem kl
      obtain ⟨a, ps, c, qs, y, ey, hrow⟩ := hr rs[k] (List.getElem_mem kl)
      rw [ey] at gk
      simp
      refine (draw_ok _ d2 (by omega)).imp ?_
      rintro ⟨c', S3⟩ ⟨v, hv, _, _, d3, f3⟩
      simp only at hv d3 f3
      subst hv
      simp
      generalize decide (v = 0) = x
      refine (turned_ok hBk (by omega)).imp ?_
      rintro ⟨e, S4⟩ ⟨he, o4⟩
      simp only at he o4
      rw [bookT_set g3 gk hBk] at he
      subst he
      have wl : ∀ x S, m_with_late [.tup bs, .int n, .int k, .bl x] S = _ := fun x S => with_late_ok g3 gk (by omega) (by omega)
      simp [wl]
      have key : ∀ P : Prop, P → (b = false ∧ P ∨ b = true ∧ P) := fun P q => by cases b <;> simp [q]
      refine key _ ?_
      have A : ∀ x, IsAgr (.tup (turnedL bs ks rs (late4 (.int a) (.tup ps) (.int c) (.tup qs) x) n k)) := fun x => turned_agr hA' g3 gk
      have dt : DatL 6 60003 [D.tup (turnedL bs ks rs (late4 (.int a) (.tup ps) (.int c) (.tup qs) x) n k), D.tup (turnedL bs ks rs (late4 (.int a) (.tup ps) (.int c) (.tup qs) x) n k), D.tup (turnedL bs ks rs (late4 (.int a) (.tup ps) (.int c) (.tup qs) !x) n k)] :=
        (DatL.cons (dat_agr (A x)) (DatL.cons (dat_agr (A x)) (DatL.cons (dat_agr (A !x)) DatL.nil))).up (Nat.le_refl _) (by omega)
      obtain ⟨z, hz⟩ := repr_lst dt (by omega) (by omega)
      rw [hz (S4 ++ _) S4.length (by simp)]
      refine wO_some.mpr ?_
      refine (turned_ok hBk (by omega)).imp ?_
      rintro ⟨e, S5⟩ ⟨he, o5⟩
      simp only at he o5
      rw [bookT_set g3 gk hBk] at he
      subst he
      simp
      rw [hz (S5 ++ _) S5.length (by simp)]
      obtain ⟨z2, hz2⟩ := repr_tup (dat_agr hA') (by omega) (by omega)
      simp [atI_nat gk, show L2.atI [D.int a, D.tup ps, D.int c, D.tup qs, D.bl y] 4 = some (.bl y) from rfl]
      have hn := lt_of_get g3
      have wb : (turnedL bs ks rs (late4 (.int a) (.tup ps) (.int c) (.tup qs) x) n k)[n]? = some (.tup [.tup ks, .tup (rs.set k (late4 (.int a) (.tup ps) (.int c) (.tup qs) x))]) := by
        unfold turnedL
        exact List.getElem?_set_self hn
      have wk : (rs.set k (late4 (.int a) (.tup ps) (.int c) (.tup qs) x))[k]? = some (.tup [.int a, .tup ps, .int c, .tup qs, .bl x]) := List.getElem?_set_self kl
      have back : ∀ S, m_with_late [.tup (turnedL bs ks rs (late4 (.int a) (.tup ps) (.int c) (.tup qs) x) n k), .int n, .int k, .bl y] S = some (.tup bs, S) := fun S => by
        rw [with_late_ok wb wk (by unfold turnedL; rw [List.length_set]; omega) (by rw [List.length_set]; omega)]
        unfold turnedL
        rw [List.set_set, List.set_set, set_same gk, set_same g3]
      simp [back, hz2]
      exact ⟨hk2, ((d3.old o4).old ((Old.app _).trans o5)).app _, f2.trans (f3.trans ((o4.trans ((Old.app _).trans (o5.trans (Old.app _)))).fr))⟩
    · rintro ρ S2 ⟨⟨y4, y5, y6, y7, y8, rfl⟩, hk', d2, f2⟩
      exact ⟨⟨_, _, _, _, _, _, _, _, rfl⟩, hd', d2, f2⟩
    · refine ⟨⟨_, _, _, _, _, by simp; exact ⟨rfl, rfl, rfl, rfl, rfl⟩⟩, fun d q => ?_, d1, f1⟩
      obtain ⟨i, rfl, h1, h2⟩ := rngL_int _ _ q
      exact ⟨i.toNat, by rw [Int.toNat_of_nonneg h1], by simp at h2; omega⟩
  · rintro ρ S1 ⟨⟨y1, y2, y3, y4, y5, y6, y7, y8, rfl⟩, hdd, d1, f1⟩
    simp
    exact ⟨d1, f1⟩
  · exact ⟨⟨_, _, _, _, _, _, _, _, rfl⟩, fun d q => q, hd, Fr.refl _ _ _⟩
end K04

namespace K04
open PySem L2 DD
theorem law_wO (ns : List Int) (hl : ns.length ≤ 63) : wO (m_law [.rol (ns.map DD.D.int)] []) fun p => p.1 = .bl true := by
  refine w_fn rfl ?_
  rw [e_deck, e_agreement]
  simp
  refine (deck_ok (by decide) (by decide) ns hl).imp ?_
  rintro ⟨d, S⟩ ⟨dk, l, e, hd⟩
  simp only at e hd
  subst e
  have r7 : rngOk 7 = true := by decide
  simp [r7]
  refine for_w (fun ds ρ S1 => (∃ y2 y3 y4, ρ = [some (.rol (ns.map DD.D.int)), some (.loc dk), y2, y3, y4]) ∧ (∀ d ∈ ds, ∃ i, d = .int i) ∧ Deck S1 dk l)
      (fun _ _ => False) (fun _ _ => False) (fun _ _ _ _ => rfl) ?_ ?_ (fun _ _ h => h.elim) (fun _ _ h => h.elim) _ _ _ ?_
  · rintro d ds ρ S1 ⟨⟨y2, y3, y4, rfl⟩, hi, d1⟩
    obtain ⟨i, rfl⟩ := hi d (by simp)
    have hi' : ∀ d ∈ ds, ∃ i, d = D.int i := fun d q => hi d (by simp [q])
    simp
    refine (agreement_ok d1).imp ?_
    rintro ⟨ag, S2⟩ ⟨hA, d2, f2⟩
    simp only at hA d2 f2
    obtain ⟨bs, rfl, hbl, hB⟩ := id hA
    obtain ⟨z, hz⟩ := repr_tup (dat_agr hA) (by omega) (by omega)
    simp [hz]
    refine (are_kinds_ok hB).imp ?_
    rintro ⟨e, S3⟩ ⟨he, o3⟩
    simp only at he o3
    subst he
    simp
    refine (are_late_ok hA (d2.old o3)).imp ?_
    rintro ⟨e, S4⟩ ⟨he, d4, f4⟩
    simp only at he d4 f4
    subst he
    simp [hz]
    exact ⟨hi', d4⟩
  · rintro ρ S1 ⟨⟨y2, y3, y4, rfl⟩, hi, d1⟩
    simp
  · refine ⟨⟨_, _, _, rfl⟩, fun d q => ?_, hd⟩
    obtain ⟨i, e, _⟩ := rngL_int _ _ q
    exact ⟨i, e⟩
theorem law_true (ns : List Int) (hl : ns.length ≤ 63) : ∃ S, m_law [.rol (ns.map DD.D.int)] [] = some (.bl true, S) := by
  obtain ⟨⟨d, S⟩, h1, h2⟩ := law_wO ns hl
  simp only at h2
  subst h2
  exact ⟨S, h1⟩
end K04

open PySem PySem.W PyProof.Rows in
set_option maxRecDepth 100000 in
set_option maxHeartbeats 0 in
theorem PySem.Challenge.cw_leftstanding_k04_kinds_and_late_rows_holds : PySem.Challenge.rw_leftstanding_k04_kinds_and_late_rows.Holds := by
  w_on; o_law; k_head; (case hw => w_witness2)
  k_fill
  refine DD.law_end (l := PySem.Challenge.rw_leftstanding_k04_kinds_and_late_rows) (n := 63) (k := 6) (x := "script") (g := K04.m_law) rfl (by decide) rfl ⟨rfl, by decide, by decide⟩ (fun w h Y => PySem.W.kIn_of Y) ?F (fun ns hl => K04.law_true ns hl)
  case F =>
    intro w mg fa h KX G hmg
    refine' K04.all_mk KX G hmg ?a_kind ?a_with_late ?a__law_deck ?a__law_draw ?a__law_pick ?a__law_leads ?a__law_pairs ?a__law_book ?a__law_asking ?a__law_agreement ?a__law_turned ?a__law_are_kinds ?a__law_are_late ?a_law ?z_abs ?z_enumerate ?z_int ?z_len ?z_list ?z_range ?z_repr ?z_sorted ?z_tuple
    (case a_kind => (refine' DD.at_mk ?a ?l ?c ?k; (case a => k_is); (case l => k_is); (case c => k_is); (case k => k_is)))
    (case a_with_late => (refine' DD.at_mk ?a ?l ?c ?k; (case a => k_is); (case l => k_is); (case c => k_is); (case k => k_is)))
    (case a__law_deck => (refine' DD.at_mk ?a ?l ?c ?k; (case a => k_is); (case l => k_is); (case c => k_is); (case k => k_is)))
    (case a__law_draw => (refine' DD.at_mk ?a ?l ?c ?k; (case a => k_is); (case l => k_is); (case c => k_is); (case k => k_is)))
    (case a__law_pick => (refine' DD.at_mk ?a ?l ?c ?k; (case a => k_is); (case l => k_is); (case c => k_is); (case k => k_is)))
    (case a__law_leads => (refine' DD.at_mk ?a ?l ?c ?k; (case a => k_is); (case l => k_is); (case c => k_is); (case k => k_is)))
    (case a__law_pairs => (refine' DD.at_mk ?a ?l ?c ?k; (case a => k_is); (case l => k_is); (case c => k_is); (case k => k_is)))
    (case a__law_book => (refine' DD.at_mk ?a ?l ?c ?k; (case a => k_is); (case l => k_is); (case c => k_is); (case k => k_is)))
    (case a__law_asking => (refine' DD.at_mk ?a ?l ?c ?k; (case a => k_is); (case l => k_is); (case c => k_is); (case k => k_is)))
    (case a__law_agreement => (refine' DD.at_mk ?a ?l ?c ?k; (case a => k_is); (case l => k_is); (case c => k_is); (case k => k_is)))
    (case a__law_turned => (refine' DD.at_mk ?a ?l ?c ?k; (case a => k_is); (case l => k_is); (case c => k_is); (case k => k_is)))
    (case a__law_are_kinds => (refine' DD.at_mk ?a ?l ?c ?k; (case a => k_is); (case l => k_is); (case c => k_is); (case k => k_is)))
    (case a__law_are_late => (refine' DD.at_mk ?a ?l ?c ?k; (case a => k_is); (case l => k_is); (case c => k_is); (case k => k_is)))
    (case a_law => (refine' DD.at_mk ?a ?l ?c ?k; (case a => k_is); (case l => k_is); (case c => k_is); (case k => k_is)))
    (case z_abs => k_is)
    (case z_enumerate => k_is)
    (case z_int => k_is)
    (case z_len => k_is)
    (case z_list => k_is)
    (case z_range => k_is)
    (case z_repr => k_is)
    (case z_sorted => k_is)
    (case z_tuple => k_is)
